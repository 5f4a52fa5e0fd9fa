import PyProof.Rows.All
import Wide.All
import OpenK.AllK
import Wide.FinOn
import PyProof.EqAt
import PyProof.EqKinds
import PyProof.TupleCall
import KE.BitLaws
import KE.IntBitsLaws
import Open.SpecLaws
import KE.OsHead
import KE.OsGo
import PyFlatLaws
import PySem.Challenge.RW_fundlinks_s01_answers
set_option Elab.async false
set_option linter.all false
set_option maxRecDepth 100000
set_option maxHeartbeats 4000000
section
set_option maxRecDepth 100000
namespace L2
open PySem PySem.Spec PyProof.Rows
/-- a key: an int or a str -/
abbrev Key := Sum Int Str
def keyIs : Key → Value → Bool
  | .inl k, v => Value.isInt k v
  | .inr x, v => Value.isStrOf x v
def keyH (w : World) : Key → Int
  | .inl k => hashInt k
  | .inr x => hashStr w x
theorem keyIs_shape : ∀ {k : Key} {v : Value}, keyIs k v = true → (∃ i t, k = Sum.inl i ∧ v = Value.int i t) ∨ (∃ x t, k = Sum.inr x ∧ v = Value.str x t)
  | .inl i, v, h => by
    obtain ⟨t, e⟩ := Value.isInt_shape (k := i) (v := v) h
    exact .inl ⟨i, t, rfl, e⟩
  | .inr x, v, h => by
    obtain ⟨t, e⟩ := Value.isStrOf_shape (x := x) (v := v) h
    exact .inr ⟨x, t, rfl, e⟩
theorem key_ll (a b : Int) : decide ((Sum.inl a : Key) = Sum.inl b) = (a == b) := by
  by_cases e : a = b
  · subst e; simp
  · have h : ¬ (Sum.inl a : Key) = Sum.inl b := fun q => e (Sum.inl.inj q)
    rw [decide_eq_false h]
    exact (beq_eq_false_iff_ne.mpr e).symm
theorem key_rr (a b : Str) : decide ((Sum.inr a : Key) = Sum.inr b) = decide (a = b) := by
  by_cases e : a = b
  · subst e; simp
  · have h : ¬ (Sum.inr a : Key) = Sum.inr b := fun q => e (Sum.inr.inj q)
    rw [decide_eq_false h, decide_eq_false e]
theorem key_lr (a : Int) (b : Str) : decide ((Sum.inl a : Key) = Sum.inr b) = false := decide_eq_false (fun q => nomatch q)
theorem key_rl (a : Str) (b : Int) : decide ((Sum.inr a : Key) = Sum.inl b) = false := decide_eq_false (fun q => nomatch q)
def mixKind (prog : Program) (w : World) : PySem.KeyKind prog w Key where
  is := keyIs
  hash := keyH w
  inj := fun v a b ha hb => by
    rcases keyIs_shape ha with ⟨i, t, rfl, rfl⟩ | ⟨x, t, rfl, rfl⟩
    · rcases keyIs_shape hb with ⟨j, u, rfl, e⟩ | ⟨y, u, rfl, e⟩
      · injection e with e1 _; rw [e1]
      · exact nomatch e
    · rcases keyIs_shape hb with ⟨j, u, rfl, e⟩ | ⟨y, u, rfl, e⟩
      · exact nomatch e
      · injection e with e1 _; rw [e1]
  byValue := fun k v h => by
    rcases keyIs_shape h with ⟨i, t, rfl, rfl⟩ | ⟨x, t, rfl, rfl⟩ <;> rfl
  pyHash := fun hv h => by
    rcases keyIs_shape hv with ⟨i, t, rfl, rfl⟩ | ⟨x, t, rfl, rfl⟩
    · exact wpAny_pyHash_int h
    · exact wpAny_pyHash_str h
  eqBool := fun hu hv h => by
    rcases keyIs_shape hu with ⟨i, t, rfl, rfl⟩ | ⟨x, t, rfl, rfl⟩
    · rcases keyIs_shape hv with ⟨j, u, rfl, rfl⟩ | ⟨y, u, rfl, rfl⟩
      · rw [key_ll] at h; exact wpAny_eqBool_int h
      · rw [key_lr] at h; exact SeqAt.EqAt.int_str i t y u _ _ _ _ h
    · rcases keyIs_shape hv with ⟨j, u, rfl, rfl⟩ | ⟨y, u, rfl, rfl⟩
      · rw [key_rl] at h; exact SeqAt.EqAt.str_int x t j u _ _ _ _ h
      · rw [key_rr] at h; exact wpAny_eqBool_str h
  «strs» := fun k x t v h => by
    rcases keyIs_shape h with ⟨i, u, rfl, e⟩ | ⟨y, u, rfl, e⟩
    · exact nomatch e
    · injection e with e1 _
      subst e1
      cases v <;> rfl
end L2
namespace L2
open PySem PySem.Spec PyProof.Rows
/-- a value, without the heap -/
inductive V where
  | non | bl (b : Bool) | int (i : Int) | str (x : Str) | byt (b : Array UInt8) | flt (b : UInt64) | ref (a : Addr) | ty (n : String)
  deriving DecidableEq
def RelV : V → Value → Prop
  | .non, u => u = Value.none
  | .bl b, u => u = Value.bool b
  | .int i, u => ∃ t, u = Value.int i t
  | .str x, u => ∃ t, u = Value.str x t
  | .byt b, u => ∃ t, u = Value.bytes b t
  | .flt b, u => ∃ t, u = Value.float b t
  | .ref a, u => u = Value.ref a
  | .ty n, u => u = Value.type n
abbrev Vals : List V → List Value → Prop := Paired RelV
theorem Vals.length {xs : List V} {us : List Value} (r : Vals xs us) : xs.length = us.length := Paired.length r
theorem Vals.get : ∀ {xs : List V} {us : List Value} {i : Nat} {x : V}, Vals xs us → xs[i]? = some x → ∃ u, us[i]? = some u ∧ RelV x u
  | _, _, _, _, .nil, e => by simp at e
  | _, _, 0, _, .cons r _, e => by simp at e; subst e; exact ⟨_, rfl, r⟩
  | _, _, i + 1, x, .cons _ t, e => by
    obtain ⟨u, h1, h2⟩ := Vals.get (i := i) (x := x) t (by simpa using e)
    exact ⟨u, by simpa using h1, h2⟩
theorem Vals.append : ∀ {xs ys : List V} {us ws : List Value}, Vals xs us → Vals ys ws → Vals (xs ++ ys) (us ++ ws)
  | _, _, _, _, .nil, s => s
  | _, _, _, _, .cons r t, s => .cons r (Vals.append t s)
theorem Vals.take : ∀ {xs : List V} {us : List Value} (n : Nat), Vals xs us → Vals (xs.take n) (us.take n)
  | _, _, 0, _ => .nil
  | _, _, _ + 1, .nil => .nil
  | _, _, n + 1, .cons r t => .cons r (Vals.take n t)
theorem Vals.drop : ∀ {xs : List V} {us : List Value} (n : Nat), Vals xs us → Vals (xs.drop n) (us.drop n)
  | _, _, 0, r => r
  | _, _, _ + 1, .nil => .nil
  | _, _, n + 1, .cons _ t => Vals.drop n t
def RelO : Option V → Option Value → Prop
  | some v, some u => RelV v u
  | none, none => True
  | _, _ => False
def KV {κ : Type} : List (κ × V) → List (κ × Value) → Prop := Paired fun (p : κ × V) (q : κ × Value) => p.1 = q.1 ∧ RelV p.2 q.2
/-- a key of a dict (00_mix): an int or a text -/
def kV : Key → V
  | .inl i => .int i
  | .inr x => .str x
/-- what stands at a tracked address -/
inductive HO where
  /-- a list -/
  | lst (xs : List V)
  /-- a tuple (never changes) -/
  | tup (xs : List V)
  /-- a dict whose keys are ints and texts; one whose keys are tuples of ints and texts (the empty one is both) -/
  | dK (kvs : List (Key × V)) | dT (kvs : List (List Key × V))
  /-- a set of ints: its members, its size -/
  | set (S : Int → Bool) (n : Nat)
  /-- an instance of the class at C, its dict at dx, its attributes -/
  | ins (C dx : Addr) (fs : List (Str × V))
  /-- the dict of the instance at x -/
  | own (x : Addr)
  /-- the dict of an exception -/
  | xd (fs : List (Str × V))
  /-- a bound method, f of x -/
  | met (f x : Addr)
  /-- a range object lo, lo + 1, .. below hi -/
  | rng (lo hi : Int)
  /-- a thing that is known to the object (the script; a dict while a loop walks it): read, never written while it is so -/
  | frz (o : Obj) (u : HO)
  /-- a code object's table -/
  | tbl (ps : Array Value)
  /-- any other thing, by what is true of its one object (a def of one's own: SetO a S n := HO.ext fun h => ..) -/
  | ext (φ : Heap → Prop)
abbrev Hp := Addr → Option HO
def upd (H : Hp) (a : Addr) (o : HO) : Hp := fun b => if b = a then some o else H b
theorem upd_same {H : Hp} {a : Addr} {o : HO} : upd H a o a = some o := by unfold upd; rw [if_pos rfl]
theorem upd_ne {H : Hp} {a b : Addr} {o : HO} (h : b ≠ a) : upd H a o b = H b := by unfold upd; rw [if_neg h]
/-- two objects of different content stand apart -/
theorem ne_of {H : Hp} {a b : Addr} {o u : HO} (h : H a = some o) (h' : H b = some u) (d : o ≠ u) : a ≠ b := by
  intro e; subst e; rw [h] at h'; exact d (Option.some.inj h')
theorem ne_of_none {H : Hp} {a b : Addr} {o : HO} (h : H a = some o) (h' : H b = none) : a ≠ b := by
  intro e; subst e; rw [h] at h'; cases h'
section
variable (P : Program) (w : World)
def ObjOk (H : Hp) (h : Heap) (a : Addr) : HO → Prop
  | .lst xs => xs.length ≤ sizeLine ∧ ∃ (its : List Value) (n : Nat), Vals xs its ∧ h.get? a = some { cls := .type "list", data := .seq its.toArray n }
  | .tup xs => xs.length ≤ sizeLine ∧ ∃ its : List Value, Vals xs its ∧ IsTup h a its.toArray
  | .dK kvs => kvs.length ≤ sizeLine ∧ (a == sysModules) = false ∧ ∃ vs, KV kvs vs ∧ h.DictOf (mixKind P w) a vs
  | .dT kvs => kvs.length ≤ sizeLine ∧ (a == sysModules) = false ∧ ∃ xs : List (List Key × Addr × Value),
      Paired (fun (p : List Key × V) (q : List Key × Addr × Value) => p.1 = q.1 ∧ H q.2.1 = some (.tup (p.1.map kV)) ∧ RelV p.2 q.2.2) kvs xs ∧
      ∃ o es ep, h.get? a = some o ∧ o.ExactDict ∧ o.data = .dict es ep ∧ es.toList = xs.map (entryOfKey (tupleKind (mixKind P w))) ∧ (xs.map (·.1)).Nodup
  | .set S n => h.SetOf (intKind P w) a S n
  | .ins C dx fs => H dx = some (.own a) ∧ fs.length ≤ 1000 ∧ dx ≠ a ∧ h.get? a = some (PySem.W.instObj C dx) ∧
      ∃ mA, h.Ns1 dx mA ∧ (∀ f, RelO (fs.lookup f) (mA f)) ∧ PySem.Within mA (fs.map (·.1))
  | .own _ => ∃ o, h.get? a = some o
  | .xd fs => ∃ mA, h.Ns1 a mA ∧ ∀ f, RelO (fs.lookup f) (mA f)
  | .rng lo hi => ∃ t u v, h.get? a = some { cls := .type "range", data := .fields #[.int lo t, .int hi u, .int 1 v] }
  | .frz o u => h.get? a = some o ∧ ObjOk H h a u
  | .tbl ps => h.get? a = some { cls := .none, data := .fields ps }
  | .met f x => h.get? a = some (PySem.W.methodObj (.ref f) (.ref x))
  | .ext φ => φ h ∧ (∃ o, h.get? a = some o) ∧ ∀ h1 h2 : Heap, φ h1 → (∀ o, h1.get? a = some o → h2.get? a = some o) → φ h2
/-- the abstract heap is held -/
def HOk (H : Hp) (h : Heap) : Prop := ∀ a o, H a = some o → ObjOk P w H h a o
end
section
variable {P : Program} {w : World} {H H' : Hp} {h h' : Heap} {a : Addr} {o : HO}
theorem ObjOk.lt (x : ObjOk P w H h a o) : a < h.objs.size := by
  cases o with
  | lst xs => obtain ⟨_, _, _, _, e⟩ := x; exact Heap.lt_size e
  | tup xs => obtain ⟨_, _, _, p⟩ := x; exact p.lt
  | dK kvs => obtain ⟨_, _, _, _, o, _, _, e, _⟩ := x; exact Heap.lt_size e
  | dT kvs => obtain ⟨_, _, _, _, o, _, _, e, _⟩ := x; exact Heap.lt_size e
  | set S n => obtain ⟨o, _, _, _, e, _⟩ := x; exact Heap.lt_size e
  | ins C dx fs => obtain ⟨_, _, _, e, _⟩ := x; exact Heap.lt_size e
  | own y => obtain ⟨_, e⟩ := x; exact Heap.lt_size e
  | xd fs => obtain ⟨_, ⟨_, _, _, e, _⟩, _⟩ := x; exact Heap.lt_size e
  | rng lo hi => obtain ⟨_, _, _, e⟩ := x; exact Heap.lt_size e
  | frz ob u => obtain ⟨e, _⟩ := x; exact Heap.lt_size e
  | tbl ps => exact Heap.lt_size (show h.get? a = some _ from x)
  | met f y => exact Heap.lt_size (show h.get? a = some _ from x)
  | ext φ => obtain ⟨_, ⟨_, e⟩, _⟩ := x; exact Heap.lt_size e
theorem Paired.mapP {α β : Type} {F G : α → β → Prop} : ∀ {l₁ : List α} {l₂ : List β}, Paired F l₁ l₂ → (∀ a b, F a b → G a b) → Paired G l₁ l₂
  | _, _, .nil, _ => .nil
  | _, _, .cons r t, f => .cons (f _ _ r) (Paired.mapP t f)
/-- what an object's description leans on: its own object, its own dict, the tuples -/
theorem ObjOk.stay (x : ObjOk P w H h a o) (k : ∀ b u, (b = a ∨ H b = some (.own a)) → h.get? b = some u → h'.get? b = some u)
    (ho : ∀ b, H b = some (.own a) → H' b = some (.own a)) (ht : ∀ b xs, H b = some (.tup xs) → H' b = some (.tup xs)) : ObjOk P w H' h' a o := by
  induction o with
  | lst xs => obtain ⟨z, its, n, r, e⟩ := x; exact ⟨z, its, n, r, k _ _ (.inl rfl) e⟩
  | tup xs => obtain ⟨z, its, r, ob, e, c⟩ := x; exact ⟨z, its, r, ob, k _ _ (.inl rfl) e, c⟩
  | dK kvs => obtain ⟨z, y, vs, r, ob, es, ep, e, c⟩ := x; exact ⟨z, y, vs, r, ob, es, ep, k _ _ (.inl rfl) e, c⟩
  | dT kvs =>
    obtain ⟨z, y, xs, r, ob, es, ep, e, c⟩ := x
    exact ⟨z, y, xs, Paired.mapP r fun p q z => ⟨z.1, ht _ _ z.2.1, z.2.2⟩, ob, es, ep, k _ _ (.inl rfl) e, c⟩
  | set S n => obtain ⟨ob, es, ep, t, e, c⟩ := x; exact ⟨ob, es, ep, t, k _ _ (.inl rfl) e, c⟩
  | ins C dx fs =>
    obtain ⟨d, z, ne, e, mA, ⟨od, es, ep, e2, c⟩, r⟩ := x
    exact ⟨ho _ d, z, ne, k _ _ (.inl rfl) e, mA, ⟨od, es, ep, k _ _ (.inr d) e2, c⟩, r⟩
  | own y => obtain ⟨ob, e⟩ := x; exact ⟨ob, k _ _ (.inl rfl) e⟩
  | xd fs => obtain ⟨mA, ⟨od, es, ep, e, c⟩, r⟩ := x; exact ⟨mA, ⟨od, es, ep, k _ _ (.inl rfl) e, c⟩, r⟩
  | rng lo hi => obtain ⟨t, u, v, e⟩ := x; exact ⟨t, u, v, k _ _ (.inl rfl) e⟩
  | frz ob u ih => obtain ⟨e, q⟩ := x; exact ⟨k _ _ (.inl rfl) e, ih q⟩
  | tbl ps =>
    have e : h.get? a = some { cls := .none, data := .fields ps } := x
    show h'.get? a = some { cls := .none, data := .fields ps }
    exact k a _ (.inl rfl) e
  | met f y =>
    have e : h.get? a = some (PySem.W.methodObj (.ref f) (.ref y)) := x
    show h'.get? a = some (PySem.W.methodObj (.ref f) (.ref y))
    exact k a _ (.inl rfl) e
  | ext φ => obtain ⟨p, ⟨o, e⟩, st⟩ := x; exact ⟨st _ _ p fun o q => k _ _ (.inl rfl) q, ⟨o, k _ _ (.inl rfl) e⟩, st⟩
theorem HOk.lt (x : HOk P w H h) (e : H a = some o) : a < h.objs.size := (x a o e).lt
theorem HOk.fresh (x : HOk P w H h) (e : h.objs.size ≤ a) : H a = none := by
  cases q : H a with
  | none => rfl
  | some u => exact absurd (Nat.lt_of_lt_of_le (x.lt q) e) (Nat.lt_irrefl _)
/-- every object of the heap is kept -/
theorem HOk.kept (x : HOk P w H h) (k : ∀ b u, h.get? b = some u → h'.get? b = some u) : HOk P w H h' := fun a o e =>
  (x a o e).stay (fun b u _ q => k b u q) (fun _ q => q) fun _ _ q => q
/-- a new object is laid and tracked -/
theorem HOk.laid (x : HOk P w H h) (k : ∀ b u, h.get? b = some u → h'.get? b = some u) (hp : h.objs.size ≤ a) (new : ObjOk P w (upd H a o) h' a o) : HOk P w (upd H a o) h' := fun b u e => by
  have hn := x.fresh hp
  by_cases hb : b = a
  · subst hb; rw [upd_same] at e; cases e; exact new
  · rw [upd_ne hb] at e
    exact (x b u e).stay (fun c v _ q => k c v q) (fun c q => by rw [upd_ne (ne_of_none q hn)]; exact q) fun c xs q => by rw [upd_ne (ne_of_none q hn)]; exact q
end
/-- what may be read as u: it is u, or a known u -/
def Rd (H : Hp) (a : Addr) (u : HO) : Prop := H a = some u ∨ ∃ o, H a = some (.frz o u)
theorem Rd.ok {P : Program} {w : World} {H : Hp} {h : Heap} {a : Addr} {u : HO} (r : Rd H a u) (x : HOk P w H h) : ObjOk P w H h a u := by
  rcases r with r | ⟨o, r⟩
  · exact x a u r
  · obtain ⟨_, q⟩ := x a _ r
    exact q
/-- what may be written -/
def Mut : Option HO → Prop
  | some (.lst _) => True
  | some (.dK _) => True
  | some (.dT _) => True
  | some (.set _ _) => True
  | some (.ins _ _ _) => True
  | some (.ext _) => True
  | _ => False
section
variable {P : Program} {w : World} {H : Hp} {h h' : Heap} {x e : Addr} {o' : HO}
/-- the object at e is changed: x itself, or the dict of the instance x -/
theorem HOk.write (ok : HOk P w H h) (mu : Mut (H x)) (he : e = x ∨ H e = some (.own x)) (k : ∀ b u, b ≠ e → h.get? b = some u → h'.get? b = some u) (heo : ∃ u, h'.get? e = some u)
    (new : ObjOk P w (upd H x o') h' x o') : HOk P w (upd H x o') h' := fun b u q => by
  have nown : ∀ c y, H c = some (.own y) → c ≠ x := fun c y r z => by subst z; rw [r] at mu; exact mu
  have ntup : ∀ c xs, H c = some (.tup xs) → c ≠ x := fun c xs r z => by subst z; rw [r] at mu; exact mu
  by_cases hb : b = x
  · subst hb; rw [upd_same] at q; cases q; exact new
  · rw [upd_ne hb] at q
    by_cases hbe : b = e
    · have q' : H b = some (.own x) := by
        rcases he with z | z
        · exact absurd (hbe.trans z) hb
        · rw [hbe]; exact z
      rw [q] at q'; cases q'
      obtain ⟨v, hv⟩ := heo
      exact ⟨v, by rw [hbe]; exact hv⟩
    · refine (ok b u q).stay (fun c v hc r => k c v ?_ r) (fun c r => by rw [upd_ne (nown c b r)]; exact r) fun c xs r => by rw [upd_ne (ntup c xs r)]; exact r
      rcases hc with rfl | hc
      · exact hbe
      · rintro rfl
        rcases he with z | z
        · exact nown c b hc z
        · rw [hc] at z; cases z; exact hb rfl
end
structure Un (fs ex : List Addr) (H H' : Hp) (h h' : Heap) : Prop where
  keep : ∀ b o, h.get? b = some o → H b = none → b ∉ fs → b ∉ ex → h'.get? b = some o
  slot : ∀ b o, h.get? b = some o → H b = none → b ∈ fs → b ∉ ex → ∃ sl, h'.get? b = some { o with slots := sl }
  free : ∀ b o, h.get? b = some o → H b = none → b ∉ ex → H' b = none
  there : ∀ b o, h.get? b = some o → b ∉ ex → ∃ o', h'.get? b = some o'
  tups : ∀ b xs, H b = some (.tup xs) → H' b = some (.tup xs)
  frzs : ∀ b o u, H b = some (.frz o u) → H' b = some (.frz o u)
  tbls : ∀ b ps, H b = some (.tbl ps) → ∃ more, H' b = some (.tbl (ps ++ more))
section
variable {fs fs' ex ex' : List Addr} {H H1 H2 : Hp} {h h1 h2 h' : Heap} {a x e : Addr} {o : HO}
theorem Un.any (u : Un fs ex H H1 h h1) {b : Addr} {ob : Obj} (q : h.get? b = some ob) (n : H b = none) (hx : b ∉ ex) : ∃ sl, h1.get? b = some { ob with slots := sl } := by
  by_cases hb : b ∈ fs
  · exact u.slot b ob q n hb hx
  · exact ⟨ob.slots, u.keep b ob q n hb hx⟩
theorem Un.kept (k : ∀ b u, h.get? b = some u → h'.get? b = some u) : Un fs ex H H h h' :=
  ⟨fun b ob q _ _ _ => k b ob q, fun b ob q _ _ _ => ⟨ob.slots, k b ob q⟩, fun _ _ _ n _ => n, fun b ob q _ => ⟨ob, k b ob q⟩, fun _ _ q => q, fun _ _ _ q => q, fun _ ps q => ⟨#[], by rw [q]; simp⟩⟩
theorem Un.refl : Un fs ex H H h h := Un.kept fun _ _ q => q
theorem Un.laid (k : ∀ b u, h.get? b = some u → h'.get? b = some u) (hp : h.objs.size ≤ a) (hn : H a = none) : Un fs ex H (upd H a o) h h' where
  keep := fun b u q _ _ _ => k b u q
  slot := fun b u q _ _ _ => ⟨u.slots, k b u q⟩
  free := fun b u q n _ => by rw [upd_ne (Nat.ne_of_lt (Nat.lt_of_lt_of_le (Heap.lt_size q) hp))]; exact n
  there := fun b u q _ => ⟨u, k b u q⟩
  tups := fun b xs q => by rw [upd_ne (ne_of_none q hn)]; exact q
  frzs := fun b u xs q => by rw [upd_ne (ne_of_none q hn)]; exact q
  tbls := fun b ps q => ⟨#[], by rw [upd_ne (ne_of_none q hn), q]; simp⟩
theorem Un.write (mu : Mut (H x)) (he : e = x ∨ H e = some (.own x)) (k : ∀ b u, b ≠ e → h.get? b = some u → h'.get? b = some u) (heo : ∃ u, h'.get? e = some u) : Un fs ex H (upd H x o) h h' := by
  have hx : ∀ b, H b = none → b ≠ x := fun b n z => by subst z; rw [n] at mu; exact mu
  have hb : ∀ b, H b = none → b ≠ e := fun b n z => by
    subst z
    rcases he with r | r
    · exact hx b n r
    · rw [n] at r; cases r
  have hm : ∀ b u, H b = some u → ¬ Mut (some u) → b ≠ x := fun b u q nm z => by subst z; rw [q] at mu; exact nm mu
  refine ⟨fun b u q n _ _ => k b u (hb b n) q, fun b u q n _ _ => ⟨u.slots, k b u (hb b n) q⟩, fun b u q n _ => by rw [upd_ne (hx b n)]; exact n, fun b u q _ => ?_,
    fun b xs q => by rw [upd_ne (hm b _ q fun z => z)]; exact q, fun b u xs q => by rw [upd_ne (hm b _ q fun z => z)]; exact q, fun b ps q => ⟨#[], by rw [upd_ne (hm b _ q fun z => z), q]; simp⟩⟩
  by_cases hbe : b = e
  · subst hbe; exact heo
  · exact ⟨u, k b u hbe q⟩
end
def trk (h : Heap) (H : Hp) : List Addr := (List.range h.objs.size).filter fun a => (H a).isSome
def hidT (h : Heap) (H : Hp) : Heap := PySem.W.hideAll h (trk h H)
theorem hidT_size (h : Heap) (H : Hp) : (hidT h H).objs.size = h.objs.size := PySem.W.hideAll_size _ _
theorem hidT_get {h : Heap} {H : Hp} {b : Addr} {o : Obj} (e : h.get? b = some o) (n : H b = none) : (hidT h H).get? b = some o :=
  PySem.W.hideAll_get _ e fun hm => by
    have q : (H b).isSome = true := (List.mem_filter.mp hm).2
    rw [n] at q; simp at q
theorem of_hidT {h : Heap} {H : Hp} {b : Addr} {o : Obj} (e : (hidT h H).get? b = some o) : h.get? b = some o ∧ H b = none := by
  have e' : h.get? b = some o := PySem.W.of_hideAll (trk h H) e
  refine ⟨e', ?_⟩
  cases q : H b with
  | none => rfl
  | some x =>
    have hm : b ∈ trk h H := List.mem_filter.mpr ⟨List.mem_range.mpr (Heap.lt_size e'), by simp [q]⟩
    have z : (hidT h H).get? b = none := PySem.W.hideAll_none (trk h H) hm
    rw [z] at e; cases e
end L2
namespace L2
open PySem PySem.Spec PyProof.Rows
/-- the module's facts, over the base: the heap at the law's entry without what is tracked there -/
structure Mod (K : PySem.W.Frag) (mg : Str → Option Value) (base : Heap) : Prop where
  kin : K.In base
  glob : base.Ns mainGlobals mg
  blt : ∃ mb, base.Ns builtinsNs mb ∧ ∀ x : Str, x ≠ "__name__" → mb x = bootBuiltins x
  nolimit : base.NoLimit
/-- the context: a def's body (or a comprehension's block) running. base: fixed through the whole law; s₀, H₀: the entry; outer: the frames whose slots others may change (a def's callers); stack: all frames that run;
   ex: iterators that were made ahead of the entry and are walked here (a comprehension's); fn: the names whose cells were made at the entry (a def: all; a comprehension's block: its own); calm: not within an except suite; pn: pins that every state bears; xe: what is wanted of an exception that leaves the code -/
structure Cx where
  prog : Program
  w : World
  K : PySem.W.Frag
  mg : Str → Option Value
  base : Heap
  A : Around
  N : List Str
  s_0 : Shared
  H_0 : Hp
  env : Env
  outer : List Env
  stack : List Env
  ex : List Addr
  fn : Str → Bool
  calm : Bool
  pn : List (Addr × Obj)
  xe : Value → Shared → Prop
/-- the callers' frames -/
def frs (l : List Env) : List Addr := l.filterMap (·.frame)
abbrev Cx.fs (X : Cx) : List Addr := frs X.outer
def Vis (sc : Scope) (x : Str) : Prop := sc.names.lookup x = some .local ∨ sc.names.lookup x = some .cell ∨ sc.names.lookup x = some .free
def Loc (sc : Scope) (x : Str) : Prop := sc.names.lookup x = some .local ∨ sc.names.lookup x = some .cell
def Look (env : Env) (h : Heap) (m : Str → Option Value) (x : Str) (u : Value) : Prop :=
  (env.kindOf x = some .local ∧ m x = some u) ∨ ((env.kindOf x = some .cell ∨ env.kindOf x = some .free) ∧ ∃ c, env.cells.lookup x = some c ∧ h.IsCell c (some u))
structure Cx.Ok (X : Cx) : Prop where
  mod : Mod X.K X.mg X.base
  kind : X.env.scope.kind = .function
  glob : X.env.globals = mainGlobals
  blt : X.env.builtins = builtinsNs
  above : X.s_0.heap.objs.size ≤ X.env.locals
  inj : ∀ x y c, X.env.cells.lookup x = some c → X.env.cells.lookup y = some c → x = y
  has : ∀ x, (X.env.kindOf x = some .cell ∨ X.env.kindOf x = some .free) → ∃ c, X.env.cells.lookup x = some c
  cab : ∀ x c, X.fn x = true → X.env.cells.lookup x = some c → X.s_0.heap.objs.size ≤ c
  hd : X.calm = true → X.A.handled = none
  frames : X.A.frames = some X.stack
  stk : X.stack = X.outer ∨ (X.stack = X.env :: X.outer ∧ X.env.frame = some X.env.locals)
  exf : ∀ b ∈ X.ex, b ≠ X.env.locals ∧ ∀ x c, X.env.cells.lookup x = some c → c ≠ b
  bs : ∀ b o, X.base.get? b = some o → X.s_0.heap.get? b = some o ∧ X.H_0 b = none
  bsz : X.base.objs.size ≤ X.s_0.heap.objs.size
  noex : ∀ b o, X.base.get? b = some o → b ∉ X.ex
  exfs : ∀ b ∈ X.ex, b ∉ X.fs
  funs : X.s_0.heap.FunFrames X.base X.outer
  frf : ∀ b ∈ X.fs, X.H_0 b = none
structure Inv (X : Cx) (pins : List (Addr × Obj)) (σ : List (Option V)) (H : Hp) (s : Shared) : Prop where
  ok : X.Ok
  os : s.os = X.s_0.os
  bare : AllBare s.gens
  base : Un X.fs X.ex X.H_0 H X.s_0.heap s.heap
  loc : ∃ m, s.heap.Ns X.env.locals m ∧ ∀ (i : Nat) (x : Str) (v : V), X.N[i]? = some x → σ[i]? = some (some v) → Vis X.env.scope x → ∃ u, RelV v u ∧ Look X.env s.heap m x u
  cell : ∀ x c, X.env.cells.lookup x = some c → ∃ v, s.heap.IsCell c v
  free : H X.env.locals = none
  freeC : ∀ x c, X.env.cells.lookup x = some c → H c = none
  pin : ∀ p ∈ X.pn ++ pins, s.heap.get? p.1 = some p.2 ∧ H p.1 = none ∧ p.1 ≠ X.env.locals ∧ p.1 ∉ X.fs ∧ ∀ v, p.2.data ≠ .cell v
  hok : HOk X.prog X.w H s.heap
  len : σ.length = X.N.length
section
variable {X : Cx} {pins : List (Addr × Obj)} {σ : List (Option V)} {H H' : Hp} {s : Shared} {h' : Heap}
theorem Cx.Ok.nofr (ok : X.Ok) {b : Addr} {o : Obj} (e : X.base.get? b = some o) : b ∉ X.fs := fun hb => by
  have := (ok.funs.mem hb).1
  rw [e] at this; cases this
theorem Inv.bs (I : Inv X pins σ H s) : ∀ b o, X.base.get? b = some o → s.heap.get? b = some o ∧ H b = none := fun b o e =>
  ⟨I.base.keep b o (I.ok.bs b o e).1 (I.ok.bs b o e).2 (I.ok.nofr e) (I.ok.noex b o e), I.base.free b o (I.ok.bs b o e).1 (I.ok.bs b o e).2 (I.ok.noex b o e)⟩
theorem Inv.bk (I : Inv X pins σ H s) : ∀ b o, X.base.get? b = some o → s.heap.get? b = some o := fun b o e => (I.bs b o e).1
theorem Inv.mod (I : Inv X pins σ H s) : Mod X.K X.mg X.base := I.ok.mod
theorem Inv.kIn (I : Inv X pins σ H s) : X.K.In s.heap := I.ok.mod.kin.keeps I.bk
theorem Inv.lt (I : Inv X pins σ H s) : X.env.locals < s.heap.objs.size := let ⟨_, hn, _⟩ := I.loc; hn.lt
theorem Inv.sz (I : Inv X pins σ H s) : X.s_0.heap.objs.size ≤ s.heap.objs.size := Nat.le_trans I.ok.above (Nat.le_of_lt I.lt)
theorem Inv.nofs (I : Inv X pins σ H s) {a : Addr} (h : s.heap.objs.size ≤ a) : a ∉ X.fs := fun hb => by
  obtain ⟨_, o, ho, _⟩ := I.ok.funs.mem hb
  exact absurd (Nat.lt_of_lt_of_le (Heap.lt_size ho) (Nat.le_trans I.sz h)) (Nat.lt_irrefl _)
theorem Inv.cne (I : Inv X pins σ H s) : ∀ x c, X.env.cells.lookup x = some c → c ≠ X.env.locals := fun x c e z => by
  obtain ⟨v, o, ho, hd⟩ := I.cell x c e
  obtain ⟨m, ⟨o', es, ep, ho', hd', _⟩, _⟩ := I.loc
  rw [z, ho'] at ho; cases ho; rw [hd'] at hd; cases hd
theorem Inv.funs (I : Inv X pins σ H s) : s.heap.FunFrames X.base X.outer := by
  have all : ∀ (l : List Env), (∀ b ∈ frs l, b ∈ X.fs) → X.s_0.heap.FunFrames X.base l → s.heap.FunFrames X.base l := by
    intro l
    induction l with
    | nil => intro _ _; trivial
    | cons env r ih =>
      intro hs hl
      obtain ⟨hk, ⟨L, o, hf, hn, ho, hd⟩, hr⟩ := hl
      have hL : L ∈ X.fs := hs L (by unfold frs; rw [List.filterMap_cons, hf]; exact List.mem_cons_self)
      obtain ⟨sl, e⟩ := I.base.slot L o ho (I.ok.frf L hL) hL fun z => I.ok.exfs L z hL
      exact ⟨hk, ⟨L, _, hf, hn, e, hd⟩, ih (fun b hb => hs b (by unfold frs; rw [List.filterMap_cons, hf]; exact List.mem_cons_of_mem _ hb)) hr⟩
  exact all X.outer (fun _ hb => hb) I.ok.funs
/-- the frames that run, for a call -/
theorem Inv.stack (I : Inv X pins σ H s) : s.heap.FunFrames X.base X.stack := by
  rcases I.ok.stk with e | ⟨e, hf⟩
  · rw [e]; exact I.funs
  · rw [e]
    obtain ⟨m, hn, _⟩ := I.loc
    refine .cons (by rw [I.ok.kind]; decide) hf hn ?_ I.funs
    exact Heap.get?_none_of_le (Nat.le_trans I.ok.bsz I.ok.above)
theorem Inv.stkSub (I : Inv X pins σ H s) : ∀ b ∈ frs X.stack, b ∈ X.env.locals :: X.fs := fun b hb => by
  rcases I.ok.stk with e | ⟨e, hf⟩
  · rw [e] at hb; exact List.mem_cons_of_mem _ hb
  · rw [e] at hb
    unfold frs at hb
    rw [List.filterMap_cons, hf] at hb
    exact hb
theorem Inv.stkFree (I : Inv X pins σ H s) : ∀ b ∈ frs X.stack, H b = none := fun b hb => by
  rcases List.mem_cons.mp (I.stkSub b hb) with e | hb
  · rw [e]; exact I.free
  · obtain ⟨_, o, ho, _⟩ := I.ok.funs.mem hb
    exact I.base.free b o ho (I.ok.frf b hb) fun z => I.ok.exfs b z hb
/-- THE STEP: the untracked objects but the frame and the records at ch are kept (the callers' frames up to slots), the frame's map is kept, the new abstract heap is held -/
theorem Inv.step {g' : Array GenState} {t' : Nat} {d' : Drawn} {ch : List Addr} (I : Inv X pins σ H s)
    (hch : ∀ b ∈ ch, (b ∈ X.ex ∨ X.s_0.heap.objs.size ≤ b) ∧ b ≠ X.env.locals ∧ (∀ x c, X.env.cells.lookup x = some c → c ≠ b) ∧ ∀ p ∈ X.pn ++ pins, p.1 ≠ b)
    (keep : ∀ b o, b ≠ X.env.locals → b ∉ X.fs → b ∉ ch → s.heap.get? b = some o → H b = none → h'.get? b = some o)
    (slot : ∀ b o, b ≠ X.env.locals → b ∈ X.fs → b ∉ ch → s.heap.get? b = some o → H b = none → ∃ sl, h'.get? b = some { o with slots := sl }) (free : ∀ b o, b ∉ ch → s.heap.get? b = some o → H b = none → H' b = none)
    (there : ∀ b o, b ∉ ch → s.heap.get? b = some o → ∃ o', h'.get? b = some o')
    (tups : ∀ b xs, H b = some (.tup xs) → H' b = some (.tup xs)) (frzs : ∀ b o u, H b = some (.frz o u) → H' b = some (.frz o u)) (tbls : ∀ b ps, H b = some (.tbl ps) → ∃ more, H' b = some (.tbl (ps ++ more)))
    (ns : ∀ m, s.heap.Ns X.env.locals m → h'.Ns X.env.locals m) (hok : HOk X.prog X.w H' h') (hg : AllBare g') :
    Inv X pins σ H' { s with heap := h', gens := g', drawn := d', toks := t' } := by
  have neL : ∀ b o, X.s_0.heap.get? b = some o → b ≠ X.env.locals := fun b o e => Nat.ne_of_lt (Nat.lt_of_lt_of_le (Heap.lt_size e) I.ok.above)
  have neC : ∀ b o, X.s_0.heap.get? b = some o → b ∉ X.ex → b ∉ ch := fun b o e hx hb => by
    rcases (hch b hb).1 with z | z
    · exact hx z
    · exact absurd (Nat.lt_of_lt_of_le (Heap.lt_size e) z) (Nat.lt_irrefl _)
  have cellK : ∀ x c, X.env.cells.lookup x = some c → ∀ v, s.heap.IsCell c v → h'.IsCell c v := fun x c e v ⟨o, ho, hd⟩ => by
    have nch : c ∉ ch := fun z => (hch c z).2.2.1 x c e rfl
    by_cases hc : c ∈ X.fs
    · obtain ⟨sl, q⟩ := slot c o (I.cne x c e) hc nch ho (I.freeC x c e)
      exact ⟨_, q, hd⟩
    · exact ⟨o, keep c o (I.cne x c e) hc nch ho (I.freeC x c e), hd⟩
  refine ⟨I.ok, I.os, hg, ⟨fun b o e n hb hx => ?_, fun b o e n hb hx => ?_, fun b o e n hx => ?_, fun b o e hx => ?_, fun b xs e => tups b xs (I.base.tups b xs e), fun b o xs e => frzs b o xs (I.base.frzs b o xs e), fun b ps e => ?_⟩, ?_, fun x c e => ?_, ?_, fun x c e => ?_, fun p hp => ?_, hok, I.len⟩
  · exact keep b o (neL b o e) hb (neC b o e hx) (I.base.keep b o e n hb hx) (I.base.free b o e n hx)
  · obtain ⟨sl, e1⟩ := I.base.slot b o e n hb hx
    obtain ⟨sl', e2⟩ := slot b _ (neL b o e) hb (neC b o e hx) e1 (I.base.free b o e n hx)
    exact ⟨sl', e2⟩
  · obtain ⟨o', e1⟩ := I.base.there b o e hx
    exact free b o' (neC b o e hx) e1 (I.base.free b o e n hx)
  · obtain ⟨o', e1⟩ := I.base.there b o e hx
    exact there b o' (neC b o e hx) e1
  · obtain ⟨m1, e1⟩ := I.base.tbls b ps e
    obtain ⟨m2, e2⟩ := tbls b _ e1
    exact ⟨m1 ++ m2, by rw [e2, Array.append_assoc]⟩
  · obtain ⟨m, hn, hl⟩ := I.loc
    refine ⟨m, ns m hn, fun i x v e1 e2 e3 => ?_⟩
    obtain ⟨u, r, l⟩ := hl i x v e1 e2 e3
    refine ⟨u, r, ?_⟩
    rcases l with l | ⟨k, c, e, z⟩
    · exact .inl l
    · exact .inr ⟨k, c, e, cellK x c e _ z⟩
  · obtain ⟨v, z⟩ := I.cell x c e
    exact ⟨v, cellK x c e v z⟩
  · obtain ⟨m, ⟨o, _, _, ho, _⟩, _⟩ := I.loc
    exact free _ o (fun z => (hch _ z).2.1 rfl) ho I.free
  · obtain ⟨v, o, ho, hd⟩ := I.cell x c e
    exact free c o (fun z => (hch c z).2.2.1 x c e rfl) ho (I.freeC x c e)
  · obtain ⟨e, n, ne, nf, d⟩ := I.pin p hp
    have nch : p.1 ∉ ch := fun z => (hch p.1 z).2.2.2 p hp rfl
    exact ⟨keep p.1 p.2 ne nf nch e n, free p.1 p.2 nch e n, ne, nf, d⟩
/-- .. where the frame's own object is kept too -/
theorem Inv.un {t' : Nat} (I : Inv X pins σ H s) (u : Un X.fs [] H H' s.heap h') (hok : HOk X.prog X.w H' h') : Inv X pins σ H' { s with heap := h', toks := t' } := by
  obtain ⟨m, ⟨o, es, ep, ho, r⟩, _⟩ := id I.loc
  obtain ⟨sl, hL⟩ := u.any ho I.free (by simp)
  exact I.step (g' := s.gens) (d' := s.drawn) (ch := []) (fun _ z => nomatch z) (fun b o _ hb _ e n => u.keep b o e n hb (by simp)) (fun b o _ hb _ e n => u.slot b o e n hb (by simp)) (fun b o _ e n => u.free b o e n (by simp)) (fun b o _ e => u.there b o e (by simp)) u.tups u.frzs u.tbls (fun m' hm => by
    obtain ⟨o', es', ep', ho', r'⟩ := hm
    rw [ho] at ho'; cases ho'
    exact ⟨_, es', ep', hL, r'⟩) hok I.bare
/-- behind a call (or a comprehension's block): the slots of this frame may have changed too, the records at ch may have turned -/
theorem Inv.call {g' : Array GenState} {t' : Nat} {d' : Drawn} {ch : List Addr} (I : Inv X pins σ H s) (u : Un (frs X.stack) ch H H' s.heap h') (hok : HOk X.prog X.w H' h') (hg : AllBare g')
    (hch : ∀ b ∈ ch, (b ∈ X.ex ∨ X.s_0.heap.objs.size ≤ b) ∧ b ≠ X.env.locals ∧ (∀ x c, X.env.cells.lookup x = some c → c ≠ b) ∧ ∀ p ∈ X.pn ++ pins, p.1 ≠ b) :
    Inv X pins σ H' { s with heap := h', gens := g', drawn := d', toks := t' } := by
  obtain ⟨m, ⟨o, es, ep, ho, r⟩, _⟩ := id I.loc
  obtain ⟨sl, hL⟩ := u.any ho I.free fun z => (hch _ z).2.1 rfl
  exact I.step (ch := ch) hch (fun b o hL hb hc e n => u.keep b o e n (fun z => (List.mem_cons.mp (I.stkSub b z)).elim hL hb) hc) (fun b o _ _ hc e n => u.any e n hc) (fun b o hc e n => u.free b o e n hc) (fun b o hc e => u.there b o e hc) u.tups u.frzs u.tbls (fun m' hm => by
    obtain ⟨o', es', ep', ho', r'⟩ := hm
    rw [ho] at ho'; cases ho'
    exact ⟨_, es', ep', hL, r'⟩) hok hg
/-- an untracked record of ours (an iterator) has turned -/
theorem Inv.turned {t' : Nat} {it : Addr} (I : Inv X pins σ H s) (k : ∀ b o, b ≠ it → s.heap.get? b = some o → h'.get? b = some o) (hn : H it = none) (hL : it ≠ X.env.locals)
    (h1 : it ∈ X.ex ∨ X.s_0.heap.objs.size ≤ it) (h2 : ∀ x c, X.env.cells.lookup x = some c → c ≠ it) (h3 : ∀ p ∈ X.pn ++ pins, p.1 ≠ it) : Inv X pins σ H { s with heap := h', toks := t' } := by
  have nit : ∀ b u, H b = some u → b ≠ it := fun b u e z => by rw [z, hn] at e; cases e
  refine I.step (g' := s.gens) (d' := s.drawn) (ch := [it]) (fun b hb => ?_) (fun b o _ _ hc e _ => k b o (fun z => hc (by simp [z])) e) (fun b o _ _ hc e _ => ⟨o.slots, k b o (fun z => hc (by simp [z])) e⟩) (fun _ _ _ _ n => n)
    (fun b o hc e => ⟨o, k b o (fun z => hc (by simp [z])) e⟩) (fun _ _ e => e) (fun _ _ _ e => e) (fun b ps e => ⟨#[], by rw [e]; simp⟩) (fun m hm => ?_) (fun b u e => ?_) I.bare
  · have e : b = it := by simpa using hb
    subst e
    exact ⟨h1, hL, h2, h3⟩
  · obtain ⟨o, es, ep, ho, r⟩ := hm
    exact ⟨o, es, ep, k _ o (Ne.symm hL) ho, r⟩
  · refine (I.hok b u e).stay (fun c v hc q => k c v ?_ q) (fun _ q => q) fun _ _ q => q
    rcases hc with z | z
    · rw [z]; exact nit b u e
    · exact nit c _ z
theorem Inv.tok (I : Inv X pins σ H s) (t : Nat) : Inv X pins σ H { s with toks := t } := I.un (h' := s.heap) (t' := t) Un.refl I.hok
/-- all objects kept -/
theorem Inv.kept {t' : Nat} (I : Inv X pins σ H s) (k : ∀ b u, s.heap.get? b = some u → h'.get? b = some u) : Inv X pins σ H { s with heap := h', toks := t' } := I.un (Un.kept k) (I.hok.kept k)
/-- a new object laid and tracked -/
theorem Inv.laid {a : Addr} {o : HO} {t' : Nat} (I : Inv X pins σ H s) (k : ∀ b u, s.heap.get? b = some u → h'.get? b = some u) (hp : s.heap.objs.size ≤ a) (new : ObjOk X.prog X.w (upd H a o) h' a o) :
    Inv X pins σ (upd H a o) { s with heap := h', toks := t' } := I.un (Un.laid k hp (I.hok.fresh hp)) (I.hok.laid k hp new)
/-- an object written -/
theorem Inv.write {x e : Addr} {o : HO} {t' : Nat} (I : Inv X pins σ H s) (mu : Mut (H x)) (he : e = x ∨ H e = some (.own x)) (k : ∀ b u, b ≠ e → s.heap.get? b = some u → h'.get? b = some u) (heo : ∃ u, h'.get? e = some u)
    (new : ObjOk X.prog X.w (upd H x o) h' x o) : Inv X pins σ (upd H x o) { s with heap := h', toks := t' } := I.un (Un.write mu he k heo) (I.hok.write mu he k heo new)
/-- forgetting slots, pins -/
theorem Inv.weak {σ' : List (Option V)} (I : Inv X pins σ H s) (hl : σ'.length = σ.length) (w : ∀ (i : Nat) v, σ'[i]? = some (some v) → σ[i]? = some (some v)) : Inv X pins σ' H s :=
  ⟨I.ok, I.os, I.bare, I.base, let ⟨m, hn, hl'⟩ := I.loc; ⟨m, hn, fun i x v e1 e2 e3 => hl' i x v e1 (w i v e2) e3⟩, I.cell, I.free, I.freeC, I.pin, I.hok, hl.trans I.len⟩
theorem Inv.pins_of {pins' : List (Addr × Obj)} (I : Inv X pins σ H s) (h : ∀ p ∈ pins', s.heap.get? p.1 = some p.2 ∧ H p.1 = none ∧ p.1 ≠ X.env.locals ∧ p.1 ∉ X.fs ∧ ∀ v, p.2.data ≠ .cell v) : Inv X pins' σ H s :=
  ⟨I.ok, I.os, I.bare, I.base, I.loc, I.cell, I.free, I.freeC, fun p hp => (List.mem_append.mp hp).elim (fun z => I.pin p (List.mem_append_left _ z)) (h p), I.hok, I.len⟩
theorem nodup_ix {N : List Str} (hN : N.Nodup) {i j : Nat} {x : Str} (a : N[i]? = some x) (b : N[j]? = some x) : i = j := by
  obtain ⟨h1, e1⟩ := List.getElem?_eq_some_iff.mp a
  obtain ⟨h2, e2⟩ := List.getElem?_eq_some_iff.mp b
  exact (List.getElem_inj hN).mp (e1.trans e2.symm)
/-- a name is stored; what changed -/
theorem store_ok2 {M : Model} {A : Around} {E : Value → Shared → Prop} {i : Nat} {x : Str} {v : V} {u : Value} {Q : Unit → Shared → Prop} (I : Inv X pins σ H s) (hN : X.N.Nodup) (hi : X.N[i]? = some x) (hx : Loc X.env.scope x) (r : RelV v u)
    (h : ∀ s', Inv X pins (σ.set i (some v)) H s' → (∃ a, Heap.SameBut a s.heap s'.heap ∧ (a = X.env.locals ∨ X.env.cells.lookup x = some a)) → Q () s') (hf : X.fn x = true ∨ X.env.scope.names.lookup x = some .local := by first | exact .inl rfl | exact .inr rfl | assumption) : wpAny M A (storeName X.env x u) Q E s := by
  obtain ⟨m, hn, hl⟩ := id I.loc
  have hcls : (X.env.scope.kind == .class || (X.env.scope.kind == .module && X.env.locals != X.env.globals)) = false := by rw [I.ok.kind]; rfl
  have hiσ : i < σ.length := by rw [I.len]; exact (List.getElem?_eq_some_iff.mp hi).1
  have cne := I.cne
  have tracked : ∀ {a : Addr} {h' : Heap}, (∃ o, s.heap.get? a = some o ∧ H a = none) → Heap.SameBut a s.heap h' → HOk X.prog X.w H h' := fun {a h'} ha hs b ob e => by
    obtain ⟨_, _, hfree⟩ := ha
    refine (I.hok b ob e).stay (fun c w' hc q => (hs.2 c ?_).trans q) (fun _ q => q) fun _ _ q => q
    rintro rfl
    rcases hc with rfl | hc
    · rw [hfree] at e; cases e
    · rw [hfree] at hc; cases hc
  rcases hx with hk | hk
  · refine wpAny_storeName_local hk hn (fun h' hn' hs => ?_) hcls
    obtain ⟨oL, _, _, hoL, _⟩ := id hn
    refine h _ ⟨I.ok, I.os, I.bare, ⟨fun b o e n hb hx => ?_, fun b o e n hb hx => ?_, I.base.free, fun b o e hx => ?_, I.base.tups, I.base.frzs, I.base.tbls⟩, ⟨_, hn', fun j y v' e1 e2 e3 => ?_⟩, fun y c e => ?_, I.free, I.freeC, fun p hp => ?_, tracked ⟨oL, hoL, I.free⟩ hs, by simpa using I.len⟩ ⟨_, hs, .inl rfl⟩
    · exact (hs.2 b (Nat.ne_of_lt (Nat.lt_of_lt_of_le (Heap.lt_size e) I.ok.above))).trans (I.base.keep b o e n hb hx)
    · obtain ⟨sl, e1⟩ := I.base.slot b o e n hb hx
      exact ⟨sl, (hs.2 b (Nat.ne_of_lt (Nat.lt_of_lt_of_le (Heap.lt_size e) I.ok.above))).trans e1⟩
    · obtain ⟨o', e1⟩ := I.base.there b o e hx
      exact ⟨o', (hs.2 b (Nat.ne_of_lt (Nat.lt_of_lt_of_le (Heap.lt_size e) I.ok.above))).trans e1⟩
    · by_cases hj : j = i
      · subst hj
        rw [hi] at e1; cases e1
        rw [List.getElem?_set_self hiσ] at e2
        cases e2
        exact ⟨u, r, .inl ⟨hk, by simp⟩⟩
      · rw [List.getElem?_set_ne (Ne.symm hj)] at e2
        obtain ⟨u', r', q⟩ := hl j y v' e1 e2 e3
        refine ⟨u', r', ?_⟩
        rcases q with ⟨k, e⟩ | ⟨k, c, e, z⟩
        · refine .inl ⟨k, ?_⟩
          have : y ≠ x := fun e => hj (nodup_ix hN e1 (e ▸ hi))
          simp [this, e]
        · exact .inr ⟨k, c, e, z.sameBut hs (cne y c e)⟩
    · obtain ⟨w', z⟩ := I.cell y c e
      exact ⟨w', z.sameBut hs (cne y c e)⟩
    · obtain ⟨e, n, ne, nf, d⟩ := I.pin p hp
      exact ⟨(hs.2 p.1 ne).trans e, n, ne, nf, d⟩
  · have hfn : X.fn x = true := by
      rcases hf with z | z
      · exact z
      · rw [z] at hk; cases hk
    obtain ⟨c, hc⟩ := I.ok.has x (.inl hk)
    obtain ⟨w', z⟩ := I.cell x c hc
    refine wpAny_storeName_cell I.ok.kind hk hc z (fun h' hc' hs => ?_)
    obtain ⟨oc, hoc, hocd⟩ := id z
    refine h { s with heap := h' } ⟨I.ok, I.os, I.bare, ⟨fun b o e n hb hx => ?_, fun b o e n hb hx => ?_, I.base.free, fun b o e hx => ?_, I.base.tups, I.base.frzs, I.base.tbls⟩, ⟨m, hn.sameBut hs (Ne.symm (cne x c hc)), fun j y v' e1 e2 e3 => ?_⟩, fun y c' e => ?_, I.free, I.freeC, fun p hp => ?_, tracked ⟨oc, hoc, I.freeC x c hc⟩ hs, by simpa using I.len⟩ ⟨c, hs, .inr hc⟩
    · exact (hs.2 b (Nat.ne_of_lt (Nat.lt_of_lt_of_le (Heap.lt_size e) (I.ok.cab x c hfn hc)))).trans (I.base.keep b o e n hb hx)
    · obtain ⟨sl, e1⟩ := I.base.slot b o e n hb hx
      exact ⟨sl, (hs.2 b (Nat.ne_of_lt (Nat.lt_of_lt_of_le (Heap.lt_size e) (I.ok.cab x c hfn hc)))).trans e1⟩
    · obtain ⟨o', e1⟩ := I.base.there b o e hx
      exact ⟨o', (hs.2 b (Nat.ne_of_lt (Nat.lt_of_lt_of_le (Heap.lt_size e) (I.ok.cab x c hfn hc)))).trans e1⟩
    · by_cases hj : j = i
      · subst hj
        rw [hi] at e1; cases e1
        rw [List.getElem?_set_self hiσ] at e2
        cases e2
        exact ⟨u, r, .inr ⟨.inl hk, c, hc, hc'⟩⟩
      · rw [List.getElem?_set_ne (Ne.symm hj)] at e2
        obtain ⟨u', r', q⟩ := hl j y v' e1 e2 e3
        refine ⟨u', r', ?_⟩
        rcases q with q | ⟨k, c', e, z'⟩
        · exact .inl q
        · refine .inr ⟨k, c', e, z'.sameBut hs ?_⟩
          rintro rfl
          exact hj (nodup_ix hN e1 (I.ok.inj _ _ _ e hc ▸ hi))
    · by_cases hcc : c' = c
      · subst hcc; exact ⟨_, hc'⟩
      · obtain ⟨w2, z2⟩ := I.cell y c' e
        exact ⟨w2, z2.sameBut hs hcc⟩
    · obtain ⟨e, n, ne, nf, d⟩ := I.pin p hp
      refine ⟨(hs.2 p.1 ?_).trans e, n, ne, nf, d⟩
      intro q
      rw [q, hoc] at e
      have q' : oc = p.2 := Option.some.inj e
      exact d w' (by rw [← q']; exact hocd)
theorem store_ok {M : Model} {A : Around} {E : Value → Shared → Prop} {i : Nat} {x : Str} {v : V} {u : Value} {Q : Unit → Shared → Prop} (I : Inv X pins σ H s) (hN : X.N.Nodup) (hi : X.N[i]? = some x) (hx : Loc X.env.scope x) (r : RelV v u)
    (h : ∀ s', Inv X pins (σ.set i (some v)) H s' → Q () s') (hf : X.fn x = true ∨ X.env.scope.names.lookup x = some .local := by first | exact .inl rfl | exact .inr rfl | assumption) : wpAny M A (storeName X.env x u) Q E s :=
  store_ok2 I hN hi hx r (fun s' I' _ => h s' I') hf
/-- behind a call or a block, the state as it is -/
theorem Inv.call' {s' : Shared} {ch : List Addr} (I : Inv X pins σ H s) (ho : s'.os = s.os) (u : Un (frs X.stack) ch H H' s.heap s'.heap) (hok : HOk X.prog X.w H' s'.heap) (hg : AllBare s'.gens)
    (hch : ∀ b ∈ ch, (b ∈ X.ex ∨ X.s_0.heap.objs.size ≤ b) ∧ b ≠ X.env.locals ∧ (∀ x c, X.env.cells.lookup x = some c → c ≠ b) ∧ ∀ p ∈ X.pn ++ pins, p.1 ≠ b) : Inv X pins σ H' s' := by
  obtain ⟨h', g', d', t', o'⟩ := s'
  have e : o' = s.os := ho
  subst e
  exact I.call (g' := g') (t' := t') (d' := d') u hok hg hch
end
/-- an exception: its class, its own dict's address (where it has one), the abstract heap behind it -/
abbrev XK := Value → Option Addr → Hp → Prop
abbrev St := List (Option V)
abbrev VK := V → Hp → Prop
/-- an expression's reading; a test's; an argument list's -/
abbrev TE := St → Hp → VK → Prop
abbrev TT := St → Hp → (Bool → Hp → Prop) → Prop
abbrev TA := St → Hp → (List V → Hp → Prop) → Prop
/-- what is wanted behind a statement -/
structure Ends where
  nx : St → Hp → Prop
  rt : VK
  bk : St → Hp → Prop := fun _ _ => False
  ct : St → Hp → Prop := fun _ _ => False
abbrev TS := Ends → St → Hp → Prop
def EP (X : Cx) (pins : List (Addr × Obj)) (σ : St) (Q : VK) (u : Value) (s' : Shared) : Prop := ∃ v H', Inv X pins σ H' s' ∧ RelV v u ∧ Q v H'
def TP (X : Cx) (pins : List (Addr × Obj)) (σ : St) (Q : Bool → Hp → Prop) (b : Bool) (s' : Shared) : Prop := ∃ H', Inv X pins σ H' s' ∧ Q b H'
def AP (X : Cx) (pins : List (Addr × Obj)) (σ : St) (Q : List V → Hp → Prop) (us : List Value) (s' : Shared) : Prop := ∃ vs H', Inv X pins σ H' s' ∧ Vals vs us ∧ Q vs H'
def SP (X : Cx) (pins : List (Addr × Obj)) (D : Ends) (f : Flow) (s' : Shared) : Prop :=
  match f with
  | .next => ∃ σ' H', Inv X pins σ' H' s' ∧ D.nx σ' H'
  | .brk => ∃ σ' H', Inv X pins σ' H' s' ∧ D.bk σ' H'
  | .cont => ∃ σ' H', Inv X pins σ' H' s' ∧ D.ct σ' H'
  | .ret u => ∃ v σ' H', Inv X pins σ' H' s' ∧ RelV v u ∧ D.rt v H'
def PE (X : Cx) (e : Expr) (t : TE) : Prop :=
  ∀ (pins : List (Addr × Obj)) (s : Shared) (σ : St) (H : Hp) (Q : VK), Inv X pins σ H s → t σ H Q → wpAny (model X.prog X.w) X.A (eval e X.env) (EP X pins σ Q) X.xe s
def PT (X : Cx) (e : Expr) (t : TT) : Prop :=
  ∀ (pins : List (Addr × Obj)) (s : Shared) (σ : St) (H : Hp) (Q : Bool → Hp → Prop), Inv X pins σ H s → t σ H Q → wpAny (model X.prog X.w) X.A (isTrue e X.env (eval e X.env)) (TP X pins σ Q) X.xe s
/-- a test whatever its 'whole' is (and, or) -/
def PW (X : Cx) (e : Expr) (t : TT) : Prop :=
  ∀ (whole : Sem Value) (pins : List (Addr × Obj)) (s : Shared) (σ : St) (H : Hp) (Q : Bool → Hp → Prop), Inv X pins σ H s → t σ H Q → wpAny (model X.prog X.w) X.A (isTrue e X.env whole) (TP X pins σ Q) X.xe s
theorem PW.pt {X : Cx} {e : Expr} {t : TT} (h : PW X e t) : PT X e t := h _
/-- an argument list (no star), from the left -/
def PA (X : Cx) (es : List Expr) (t : TA) : Prop :=
  ∀ (pos : Pos) (pins : List (Addr × Obj)) (s : Shared) (σ : St) (H : Hp) (Q : List V → Hp → Prop), Inv X pins σ H s → t σ H Q → wpAny (model X.prog X.w) X.A (spliced (backTo pos (starEach es X.env))) (AP X pins σ Q) X.xe s
def PS (X : Cx) (st : Stmt) (t : TS) : Prop :=
  ∀ (pins : List (Addr × Obj)) (s : Shared) (σ : St) (H : Hp) (D : Ends), Inv X pins σ H s → t D σ H → wpAny (model X.prog X.w) X.A (exec st X.env) (SP X pins D) X.xe s
def PSs (X : Cx) (st : List Stmt) (t : TS) : Prop :=
  ∀ (pins : List (Addr × Obj)) (s : Shared) (σ : St) (H : Hp) (D : Ends), Inv X pins σ H s → t D σ H → wpAny (model X.prog X.w) X.A (execs st X.env) (SP X pins D) X.xe s
/-- weaken the end -/
theorem thn {α : Type} {t : Sem α} {Q Q' : α → Shared → Prop} {M : Model} {A : Around} {E : Value → Shared → Prop} {s : Shared} (h : wpAny M A t Q E s) (hQ : ∀ a s, Q a s → Q' a s) : wpAny M A t Q' E s := wpAny_mono h hQ fun _ _ x => x
end L2
namespace L2
open PySem PySem.Spec PyProof.Rows
section
variable {X : Cx}
def tVar (i : Nat) : TE := fun σ H Q => ∃ v, σ[i]? = some (some v) ∧ Q v H
def tC (v : V) : TE := fun _ H Q => Q v H
theorem pe_var {i : Nat} {x : Str} {pos : Pos} (hN : X.N[i]? = some x) (hv : Vis X.env.scope x) (hd : (x == ("__debug__" : Str)) = false := by decide) (hcd : (x == ("__classdict__" : Str)) = false := by decide) : PE X (.Name x pos) (tVar i) := by
  intro pins s σ H Q I h
  obtain ⟨v, e, h⟩ := h
  obtain ⟨m, hn, hl⟩ := I.loc
  obtain ⟨u, r, l⟩ := hl i x v hN e hv
  have fin : EP X pins σ Q u s := ⟨v, H, I, r, h⟩
  rcases l with ⟨hk, hm⟩ | ⟨hk, c, hc, hcell⟩
  · exact wpAny_Name (wpAny_loadName_local I.ok.kind hk hn hm fin) hd
  · rcases hk with hk | hk
    · exact wpAny_Name (wpAny_loadName_cell I.ok.kind hk hc hcell fin) hd
    · exact wpAny_Name (wpAny_loadName_free I.ok.kind hk hc hcell fin hcd) hd
theorem pe_int {i j pos} : PE X (.Constant (.int i) j pos) (tC (.int i)) := fun _ _ _ H _ I h => wpAny_Constant_int ⟨.int i, H, I.tok _, ⟨_, rfl⟩, h⟩
/-- a global name of the def -/
def Gl (X : Cx) (x : Str) : Prop := X.env.kindOf x = some .globalImplicit
theorem ld_glob {E : Value → Shared → Prop} {pins : List (Addr × Obj)} {s : Shared} {σ : St} {H : Hp} {x : Str} {u : Value} {pos : Pos} {Q : Value → Shared → Prop} (I : Inv X pins σ H s) (hg : Gl X x) (hm : X.mg x = some u) (h : Q u s)
    (hd : (x == ("__debug__" : Str)) = false := by decide) : wpAny (model X.prog X.w) X.A (eval (.Name x pos) X.env) Q E s :=
  Calls.Name_function_global I.ok.kind hg (Calls.loadGlobal_global (by rw [I.ok.glob]; exact I.mod.glob.keeps I.bk) hm h) hd
theorem ld_blt {E : Value → Shared → Prop} {pins : List (Addr × Obj)} {s : Shared} {σ : St} {H : Hp} {x : Str} {u : Value} {pos : Pos} {Q : Value → Shared → Prop} (I : Inv X pins σ H s) (hg : Gl X x) (hm : X.mg x = none) (hv : bootBuiltins x = some u) (h : Q u s)
    (hn : x ≠ "__name__" := by decide) (hd : (x == ("__debug__" : Str)) = false := by decide) : wpAny (model X.prog X.w) X.A (eval (.Name x pos) X.env) Q E s := by
  obtain ⟨mb, h1, h2⟩ := I.mod.blt
  exact Calls.Name_function_global I.ok.kind hg (Calls.loadGlobal_builtin (by rw [I.ok.glob]; exact I.mod.glob.keeps I.bk) hm (by rw [I.ok.blt]; exact h1.keeps I.bk) ((h2 x hn).trans hv) h) hd
/-- a module's constant, a class, a function, as a value -/
theorem pe_glob {x : Str} {v : V} {u : Value} {pos : Pos} (hg : Gl X x) (hm : X.mg x = some u) (r : RelV v u) (hd : (x == ("__debug__" : Str)) = false := by decide) : PE X (.Name x pos) (tC v) :=
  fun _ _ _ H _ I h => ld_glob I hg hm ⟨v, H, I, r, h⟩ hd
variable {a b : Expr} {ta tb : TE} {pos : Pos}
/-- a comparison as a value, as a test -/
def tB (t : TE) : TT := fun σ H Q => t σ H fun x H1 => ∃ c, x = .bl c ∧ Q c H1
/-- an expression whose value is a bool, as a test -/
theorem pt_val {e : Expr} {t : TE} (h : PE X e t) (he : ∀ whole, isTrue e X.env whole = (do let v ← whole; standAt e.pos; holding [v] (truthy v)) := by intro _; rfl) : PT X e (tB t) := by
  intro pins s σ H Q I hw
  refine isTrue_plain (thn (h pins s σ H _ I hw) fun v s1 ⟨x, H1, I1, r1, q1⟩ => ?_) (he _)
  obtain ⟨d, rfl, q⟩ := q1
  cases r1
  exact wpAny_truthy_bool ⟨H1, I1, q⟩
variable {tA tB' : TT} {rest : List Expr}
def tAnd (t u : TT) : TT := fun σ H Q => t σ H fun c H1 => if c = true then u σ H1 Q else Q false H1
def tOr (t u : TT) : TT := fun σ H Q => t σ H fun c H1 => if c = true then Q true H1 else u σ H1 Q
def tNot (t : TT) : TT := fun σ H Q => t σ H fun c H1 => Q (!c) H1
theorem pw_and1 (ha : PT X a tA) : PW X (.BoolOp .And [a] pos) tA := by
  intro wh pins s σ H Q I h
  refine isTrue_and (thn (ha pins s σ H Q I h) fun c s1 e => ?_)
  cases c with
  | true => exact isTrue_and_nil e
  | false => exact e
theorem pw_or1 (ha : PT X a tA) : PW X (.BoolOp .Or [a] pos) tA := by
  intro wh pins s σ H Q I h
  refine isTrue_or (thn (ha pins s σ H Q I h) fun c s1 e => ?_)
  cases c with
  | false => exact isTrue_or_nil e
  | true => exact e
theorem pw_and (ha : PT X a tA) (hb : PW X (.BoolOp .And (b :: rest) pos) tB') : PW X (.BoolOp .And (a :: b :: rest) pos) (tAnd tA tB') := by
  intro wh pins s σ H Q I h
  refine isTrue_and (thn (ha pins s σ H _ I h) fun c s1 ⟨H1, I1, q1⟩ => ?_)
  cases c with
  | true => exact hb wh pins s1 σ H1 Q I1 q1
  | false => exact ⟨H1, I1, q1⟩
theorem pw_or (ha : PT X a tA) (hb : PW X (.BoolOp .Or (b :: rest) pos) tB') : PW X (.BoolOp .Or (a :: b :: rest) pos) (tOr tA tB') := by
  intro wh pins s σ H Q I h
  refine isTrue_or (thn (ha pins s σ H _ I h) fun c s1 ⟨H1, I1, q1⟩ => ?_)
  cases c with
  | true => exact ⟨H1, I1, q1⟩
  | false => exact hb wh pins s1 σ H1 Q I1 q1
theorem pt_not (ha : PT X a tA) : PT X (.UnaryOp .Not a pos) (tNot tA) := by
  intro pins s σ H Q I h
  exact isTrue_not (ha pins s σ H (fun c H1 => Q (!c) H1) I h)
/-- .. as values (bools) -/
def tAndV (ta tb : TE) : TE := fun σ H Q => ta σ H fun x H1 => ∃ c, x = .bl c ∧ if c = true then tb σ H1 Q else Q (.bl false) H1
theorem pe_one {op} {t : TE} (h : PE X a t) : PE X (.BoolOp op [a] pos) t := fun pins s σ H Q I hw => BoolOp_one (h pins s σ H Q I hw)
theorem pe_and (ha : PE X a ta) (hb : PE X (.BoolOp .And (b :: rest) pos) tb) : PE X (.BoolOp .And (a :: b :: rest) pos) (tAndV ta tb) := by
  intro pins s σ H Q I h
  refine BoolOp_and (thn (ha pins s σ H _ I h) fun v s1 ⟨x, H1, I1, r1, q1⟩ => ?_)
  obtain ⟨c, rfl, q1⟩ := q1
  cases r1
  refine wpAny_truthy_bool ?_
  cases c with
  | true => exact hb pins s1 σ H1 Q I1 q1
  | false => exact ⟨.bl false, H1, I1, rfl, q1⟩
end
end L2
namespace L2
open PySem PySem.Spec PyProof.Rows
def SqL (K : PySem.W.Frag) (H : Hp) (a : Addr) (xs : List V) : Prop :=
  Rd H a (.lst xs) ∨
    ∃ (o : Obj) (its : Array Value) (n : Nat), K.lookup a = some o ∧ o.cls = .type "list" ∧ o.dict = none ∧ o.data = .seq its n ∧ its.size ≤ sizeLine ∧ Vals xs its.toList
def SqT (K : PySem.W.Frag) (H : Hp) (a : Addr) (xs : List V) : Prop :=
  Rd H a (.tup xs) ∨
    ∃ (o : Obj) (its : Array Value) (n : Nat), K.lookup a = some o ∧ o.cls = .type "tuple" ∧ o.data = .seq its n ∧ its.size ≤ sizeLine ∧ Vals xs its.toList
def absV : Value → Option V
  | .none => some .non
  | .bool b => some (.bl b)
  | .int i _ => some (.int i)
  | .str x _ => some (.str x)
  | .bytes b _ => some (.byt b)
  | .float b _ => some (.flt b)
  | .ref a => some (.ref a)
  | .type n => some (.ty n)
  | _ => none
theorem RelV.abs {x : V} {u : Value} (r : RelV x u) : absV u = some x := by
  cases x with
  | non => cases r; rfl
  | bl _ => cases r; rfl
  | int _ => obtain ⟨t, rfl⟩ := r; rfl
  | str _ => obtain ⟨t, rfl⟩ := r; rfl
  | byt _ => obtain ⟨t, rfl⟩ := r; rfl
  | flt _ => obtain ⟨t, rfl⟩ := r; rfl
  | ref _ => cases r; rfl
  | ty _ => cases r; rfl
theorem RelV.inj {x y : V} {u : Value} (r : RelV x u) (q : RelV y u) : x = y := Option.some.inj (r.abs.symm.trans q.abs)
theorem Vals.inj : ∀ {xs ys : List V} {us : List Value}, Vals xs us → Vals ys us → xs = ys
  | _, _, _, .nil, .nil => rfl
  | _, _, _, .cons r t, .cons r' t' => by rw [r.inj r', Vals.inj t t']
section
variable {X : Cx} {pins : List (Addr × Obj)} {σ : St} {H : Hp} {s : Shared} {a : Addr} {xs ys : List V}
theorem SqL.of {K : PySem.W.Frag} (h : H a = some (.lst xs)) : SqL K H a xs := .inl (.inl h)
theorem SqT.of {K : PySem.W.Frag} (h : H a = some (.tup xs)) : SqT K H a xs := .inl (.inl h)
theorem Inv.list (I : Inv X pins σ H s) (h : SqL X.K H a xs) : ∃ its : List Value, Vals xs its ∧ PlainL s.heap a its.toArray ∧ xs.length ≤ sizeLine := by
  rcases h with h | ⟨o, its, n, hk, hc, hd, hs, hz, r⟩
  · obtain ⟨z, its, n, r, e⟩ := h.ok I.hok
    exact ⟨its, r, ⟨_, n, e, rfl, rfl, rfl⟩, z⟩
  · refine ⟨its.toList, r, ⟨o, n, I.kIn a o hk, hc, hd, by simpa using hs⟩, ?_⟩
    have e := r.length
    simp only [Array.length_toList] at e
    omega
theorem Inv.tuple (I : Inv X pins σ H s) (h : SqT X.K H a xs) : ∃ its : List Value, Vals xs its ∧ IsTup s.heap a its.toArray ∧ xs.length ≤ sizeLine := by
  rcases h with h | ⟨o, its, n, hk, hc, hs, hz, r⟩
  · obtain ⟨z, its, r, p⟩ := h.ok I.hok
    exact ⟨its, r, p, z⟩
  · refine ⟨its.toList, r, ⟨o, I.kIn a o hk, hc, n, by simpa using hs⟩, ?_⟩
    have e := r.length
    simp only [Array.length_toList] at e
    omega
theorem Inv.list_inj (I : Inv X pins σ H s) (h : SqL X.K H a xs) (h' : SqL X.K H a ys) : xs = ys := by
  obtain ⟨its, r, ⟨o, n, e, _, _, d⟩, _⟩ := I.list h
  obtain ⟨its', r', ⟨o', n', e', _, _, d'⟩, _⟩ := I.list h'
  rw [e] at e'; cases e'
  rw [d] at d'
  injection d' with d1 _
  have : its = its' := by simpa using congrArg Array.toList d1
  subst this
  exact r.inj r'
theorem Inv.tuple_inj (I : Inv X pins σ H s) (h : SqT X.K H a xs) (h' : SqT X.K H a ys) : xs = ys := by
  obtain ⟨its, r, ⟨o, e, _, n, d⟩, _⟩ := I.tuple h
  obtain ⟨its', r', ⟨o', e', _, n', d'⟩, _⟩ := I.tuple h'
  rw [e] at e'; cases e'
  rw [d] at d'
  injection d' with d1 _
  have : its = its' := by simpa using congrArg Array.toList d1
  subst this
  exact r.inj r'
end
abbrev Cx.wish (X : Cx) (E : Value → Shared → Prop) : Cx := { X with xe := E }
/-- no exception leaves -/
abbrev Cx.nox (X : Cx) : Cx := X.wish fun _ _ => False
theorem Cx.Ok.wish {X : Cx} (ok : X.Ok) (E : Value → Shared → Prop) : (X.wish E).Ok :=
  ⟨ok.mod, ok.kind, ok.glob, ok.blt, ok.above, ok.inj, ok.has, ok.cab, ok.hd, ok.frames, ok.stk, ok.exf, ok.bs, ok.bsz, ok.noex, ok.exfs, ok.funs, ok.frf⟩
theorem Cx.Ok.unwish {X : Cx} {E : Value → Shared → Prop} (ok : (X.wish E).Ok) : X.Ok :=
  ⟨ok.mod, ok.kind, ok.glob, ok.blt, ok.above, ok.inj, ok.has, ok.cab, ok.hd, ok.frames, ok.stk, ok.exf, ok.bs, ok.bsz, ok.noex, ok.exfs, ok.funs, ok.frf⟩
section
variable {X : Cx} {pins : List (Addr × Obj)} {σ : St} {H : Hp} {s : Shared} {E : Value → Shared → Prop}
theorem Inv.wish (I : Inv X pins σ H s) (E : Value → Shared → Prop) : Inv (X.wish E) pins σ H s := ⟨I.ok.wish E, I.os, I.bare, I.base, I.loc, I.cell, I.free, I.freeC, I.pin, I.hok, I.len⟩
theorem Inv.unwish (I : Inv (X.wish E) pins σ H s) : Inv X pins σ H s := ⟨I.ok.unwish, I.os, I.bare, I.base, I.loc, I.cell, I.free, I.freeC, I.pin, I.hok, I.len⟩
theorem SP.unwish {D : Ends} {f : Flow} {s' : Shared} (h : SP (X.wish E) pins D f s') : SP X pins D f s' := by
  cases f with
  | next => obtain ⟨σ', H', I, q⟩ := h; exact ⟨σ', H', I.unwish, q⟩
  | brk => obtain ⟨σ', H', I, q⟩ := h; exact ⟨σ', H', I.unwish, q⟩
  | cont => obtain ⟨σ', H', I, q⟩ := h; exact ⟨σ', H', I.unwish, q⟩
  | ret u => obtain ⟨v, σ', H', I, r, q⟩ := h; exact ⟨v, σ', H', I.unwish, r, q⟩
theorem PSs.nox {st : List Stmt} {t : TS} (h : PSs X.nox st t) : PSs X st t := fun pins s σ H D I hw =>
  wpAny_mono (h pins s σ H D (I.wish _) hw) (fun _ _ q => q.unwish) fun _ _ z => False.elim z
end
section
variable {X : Cx} {st : Stmt} {rest : List Stmt} {t u : TS} {e : Expr} {te : TE} {pos : Pos}
def tNext : TS := fun D σ H => D.nx σ H
def tSeq (t u : TS) : TS := fun D σ H => t { D with nx := u D } σ H
theorem pss_nil : PSs X [] tNext := fun _ _ σ H _ I h => wpAny_execs_nil ⟨σ, H, I, h⟩
theorem pss_cons (h1 : PS X st t) (h2 : PSs X rest u) : PSs X (st :: rest) (tSeq t u) := by
  intro pins s σ H D I h
  refine wpAny_execs_cons (thn (h1 pins s σ H { D with nx := u D } I h) fun f s1 q => ?_)
  cases f with
  | next =>
    obtain ⟨σ', H', I', q⟩ := q
    exact h2 pins s1 σ' H' D I' q
  | ret v => exact q
  | brk => exact q
  | cont => exact q
theorem pss_one (h1 : PS X st t) : PSs X [st] t := by
  intro pins s σ H D I h
  refine wpAny_execs_cons (thn (h1 pins s σ H D I h) fun f s1 q => ?_)
  cases f with
  | next => exact wpAny_execs_nil q
  | ret v => exact q
  | brk => exact q
  | cont => exact q
/-- in a def's body nothing is shown -/
theorem Inv.quiet {pins : List (Addr × Obj)} {σ : St} {H : Hp} {s : Shared} (I : Inv X pins σ H s) : interactive X.env = false := by simp [interactive, I.ok.kind]
/-- an expression whose value is dropped -/
def tDrop (te : TE) : TS := fun D σ H => te σ H fun _ H1 => D.nx σ H1
theorem ps_expr (he : PE X e te) (hs : swapsWith e none pos.line X.env = pure false := by rfl) : PS X (.Expr e pos) (tDrop te) := by
  intro pins s σ H D I h
  exact wpAny_Expr_any (thn (he pins s σ H _ I h) fun v s1 ⟨x, H1, I1, r1, q1⟩ => ⟨σ, H1, I1, q1⟩) I.quiet hs
def tRet (te : TE) : TS := fun D σ H => te σ H D.rt
theorem ps_ret (he : PE X e te) : PS X (.Return (some e) pos) (tRet te) := by
  intro pins s σ H D I h
  exact wpAny_Return_some (thn (he pins s σ H _ I h) fun v s1 ⟨x, H1, I1, r1, q1⟩ => ⟨x, σ, H1, I1, r1, q1⟩)
def tIfS (c : TT) (t u : TS) : TS := fun D σ H => c σ H fun b H1 => if b = true then t D σ H1 else u D σ H1
theorem ps_if {c : Expr} {a b : List Stmt} {tc : TT} (hc : PT X c tc) (ha : PSs X a t) (hb : PSs X b u) : PS X (.If c a b pos) (tIfS tc t u) := by
  intro pins s σ H D I h
  refine wpAny_If (thn (hc pins s σ H _ I h) fun d s1 ⟨H1, I1, q1⟩ => ?_)
  cases d with
  | true => exact ha pins s1 σ H1 D I1 q1
  | false => exact hb pins s1 σ H1 D I1 q1
/-- code that the proof never comes to -/
def tNever : TS := fun _ _ _ => False
theorem ps_never : PS X st tNever := fun _ _ _ _ _ _ h => h.elim
end
abbrev TG := V → St → Hp → (St → Hp → Prop) → Prop
abbrev TGs := List V → St → Hp → (St → Hp → Prop) → Prop
def PG (X : Cx) (target : Expr) (t : TG) : Prop :=
  ∀ (pins : List (Addr × Obj)) (s : Shared) (σ : St) (H : Hp) (v : V) (u : Value) (Q : St → Hp → Prop), Inv X pins σ H s → RelV v u → t v σ H Q →
    wpAny (model X.prog X.w) X.A (assign target X.env u) (fun _ s' => ∃ σ' H', Inv X pins σ' H' s' ∧ Q σ' H') X.xe s
/-- several targets, one after another -/
def PGs (X : Cx) (ts : List Expr) (t : TGs) : Prop :=
  ∀ (pins : List (Addr × Obj)) (s : Shared) (σ : St) (H : Hp) (vs : List V) (us : List Value) (Q : St → Hp → Prop), Inv X pins σ H s → Vals vs us → t vs σ H Q →
    wpAny (model X.prog X.w) X.A (assignInOrder ((assignEach ts X.env).map (·.2)) us) (fun _ s' => ∃ σ' H', Inv X pins σ' H' s' ∧ Q σ' H') X.xe s
section
variable {X : Cx} {pos : Pos}
def gName (i : Nat) : TG := fun v σ H Q => Q (σ.set i (some v)) H
theorem pg_name {i : Nat} {x : Str} (hN : X.N.Nodup) (hi : X.N[i]? = some x) (hx : Loc X.env.scope x) (hf : X.fn x = true ∨ X.env.scope.names.lookup x = some .local := by first | exact .inl rfl | exact .inr rfl | assumption) : PG X (.Name x pos) (gName i) := by
  intro pins s σ H v u Q I r h
  exact wpAny_assign_Name (store_ok I hN hi hx r (fun s' I' => ⟨_, H, I', h⟩) hf)
def gNil : TGs := fun vs σ H Q => vs = [] ∧ Q σ H
def gCons (t : TG) (u : TGs) : TGs := fun vs σ H Q => ∃ v r, vs = v :: r ∧ t v σ H fun σ' H' => u r σ' H' Q
theorem pgs_nil : PGs X [] gNil := by
  intro pins s σ H vs us Q I r h
  obtain ⟨e, h⟩ := h
  subst e
  cases r
  exact assignInOrder_nil ⟨σ, H, I, h⟩
theorem pgs_cons {e : Expr} {es : List Expr} {t : TG} {u : TGs} (h1 : PG X e t) (h2 : PGs X es u)
    (hs : (assignEach (e :: es) X.env).map (·.2) = assign e X.env :: (assignEach es X.env).map (·.2) := by rfl) : PGs X (e :: es) (gCons t u) := by
  intro pins s σ H vs us Q I r h
  obtain ⟨v, vr, e1, h⟩ := h
  subst e1
  cases r with
  | cons r rr =>
    rw [hs]
    refine assignInOrder_cons (thn (h1 pins s σ H _ _ _ I r h) fun _ s1 ⟨σ1, H1, I1, q1⟩ => ?_)
    exact h2 pins s1 σ1 H1 _ _ Q I1 rr q1
/-- (a, b, ..) = a tuple of that length -/
def gTup (K : PySem.W.Frag) (n : Nat) (t : TGs) : TG := fun v σ H Q => ∃ a xs, v = .ref a ∧ SqT K H a xs ∧ xs.length = n ∧ t xs σ H Q
theorem pg_tup {es : List Expr} {k : Nat} {t : TGs} {n : Nat} (hc : X.calm = true) (h : PGs X es t)
    (hn : (assignEach es X.env).length = n := by rfl) (hst : (assignEach es X.env).findIdx? (·.1) = none := by rfl) : PG X (.Tuple es k pos) (gTup X.K n t) := by
  intro pins s σ H v u Q I r hw
  obtain ⟨a, xs, e1, hq, hl, hw⟩ := hw
  subst e1
  cases r
  obtain ⟨its, rv, ht, hz⟩ := I.tuple hq
  refine assign_Tuple_tuple (I.ok.hd hc) ht (by simp [hn, ← hl, rv.length]) hst fun h' hx => ?_
  have I1 : Inv X pins σ H { s with heap := h' } := I.kept (t' := s.toks) fun b o e => hx b o (Nat.ne_of_lt (Heap.lt_size e)) e
  exact h pins _ σ H xs _ Q I1 (by simpa using rv) hw
/-- target = value -/
def tAsg (te : TE) (g : TG) : TS := fun D σ H => te σ H fun x H1 => g x σ H1 D.nx
/-- name = value -/
theorem ps_set {i : Nat} {x : Str} {e : Expr} {te : TE} {pos' : Pos} (hN : X.N.Nodup) (hi : X.N[i]? = some x) (hx : Loc X.env.scope x) (he : PE X e te) (hs : swapsWith e (some (.Name x pos')) pos.line X.env = pure false := by rfl) (hf : X.fn x = true ∨ X.env.scope.names.lookup x = some .local := by first | exact .inl rfl | exact .inr rfl | assumption) :
    PS X (.Assign [.Name x pos'] e pos) (tAsg te (gName i)) := by
  intro pins s σ H D I h
  refine wpAny_Assign_Name (thn (he pins s σ H _ I h) fun v s1 ⟨y, H1, I1, r1, q1⟩ => ?_) hs
  exact store_ok I1 hN hi hx r1 (fun s2 I2 => ⟨_, H1, I2, q1⟩) hf
end
section
variable {X : Cx} {pos : Pos}
/-- the invariant W with its measure -/
def tWhile (c : TT) (tb : TS) : TS := fun D σ H => ∃ W : Nat → St → Hp → Prop, (∃ m, W m σ H) ∧ ∀ m σ H, W m σ H →
  c σ H fun b H1 => if b = true then ∃ N : St → Hp → Prop, (∀ σ' H', N σ' H' → ∃ m', m' < m ∧ W m' σ' H') ∧ tb { D with nx := N, ct := N, bk := D.nx } σ H1 else D.nx σ H1
theorem ps_while {c : Expr} {body : List Stmt} {tc : TT} {tb : TS} (hp : PassesOwn (model X.prog X.w) X.A X.env X.xe) (hc : PT X c tc) (hb : PSs X body tb) : PS X (.While c body [] pos) (tWhile tc tb) := by
  intro pins s σ H D I h
  obtain ⟨W, ⟨m0, w0⟩, turn⟩ := h
  refine wpAny_While (codeAny_whileLoop (fun n s' => ∃ σ' H', Inv X pins σ' H' s' ∧ W n σ' H') ?_ m0 ⟨σ, H, I, w0⟩)
  rintro n s1 ⟨σ1, H1, I1, w1⟩
  refine wpAny_passesOwn hp (thn (hc pins s1 σ1 H1 _ I1 (turn n σ1 H1 w1)) fun b s2 ⟨H2, I2, q2⟩ => ?_)
  cases b with
  | true =>
    obtain ⟨N, hN, q2⟩ := q2
    rw [if_pos rfl]
    refine wpAny_passesOwn hp (thn (hb pins s2 σ1 H2 _ I2 q2) fun f s3 q3 => ?_)
    cases f with
    | next =>
      obtain ⟨σ3, H3, I3, n3⟩ := q3
      obtain ⟨m', hm, w3⟩ := hN σ3 H3 n3
      exact ⟨m', hm, σ3, H3, I3, w3⟩
    | cont =>
      obtain ⟨σ3, H3, I3, n3⟩ := q3
      obtain ⟨m', hm, w3⟩ := hN σ3 H3 n3
      exact ⟨m', hm, σ3, H3, I3, w3⟩
    | brk => exact q3
    | ret v => exact q3
  | false =>
    rw [if_neg Bool.false_ne_true]
    exact wpAny_execs_nil ⟨σ1, H2, I2, q2⟩
end
/-- at turn i: it yields x (the heap may grow), or it stops -/
structure It where
  go : Nat → Hp → Prop
  yld : Nat → Hp → V → Hp → Prop
  stop : Nat → Hp → Prop
/-- the iterator's own objects may turn: they are not the frame's, not pinned, younger than the entry (or a comprehension's own) -/
def FpOk (X : Cx) (pins : List (Addr × Obj)) (H : Hp) (b : Addr) : Prop :=
  H b = none ∧ b ≠ X.env.locals ∧ b ∉ X.fs ∧ (b ∈ X.ex ∨ X.s_0.heap.objs.size ≤ b) ∧ (∀ x c, X.env.cells.lookup x = some c → c ≠ b) ∧ ∀ p ∈ X.pn ++ pins, p.1 ≠ b
theorem Inv.fpOk {X : Cx} {pins : List (Addr × Obj)} {σ : St} {H H' : Hp} {s : Shared} {b : Addr} (I : Inv X pins σ H s) (hb : s.heap.objs.size ≤ b) (hn : H' b = none) : FpOk X pins H' b := by
  refine ⟨hn, Nat.ne_of_gt (Nat.lt_of_lt_of_le I.lt hb), I.nofs hb, .inr (Nat.le_trans I.sz hb), fun x c e z => ?_, fun p hp z => ?_⟩
  · obtain ⟨v, q⟩ := I.cell x c e
    exact absurd (Nat.lt_of_lt_of_le q.lt (by rw [z]; exact hb)) (Nat.lt_irrefl _)
  · exact absurd (Nat.lt_of_lt_of_le (Heap.lt_size (I.pin p hp).1) (by rw [z]; exact hb)) (Nat.lt_irrefl _)
structure Turn (P : Program) (w : World) (K : PySem.W.Frag) (tg : Expr) (J : It) (fp : List Addr) (it : Addr) (tn : Nat → Heap → Prop) : Prop where
  mem : it ∈ fp
  obj : ∀ i h, tn i h → ∀ b ∈ fp, ∃ o, h.get? b = some o ∧ ∀ v, o.data ≠ .cell v
  keep : ∀ i h h', tn i h → (∀ b ∈ fp, ∀ o, h.get? b = some o → h'.get? b = some o) → tn i h'
  item : ∀ (X : Cx), X.prog = P → X.w = w → X.K = K → X.calm = true → ∀ (i : Nat) (pins : List (Addr × Obj)) (s : Shared) (σ : St) (H : Hp) (E : Value → Shared → Prop), Inv X pins σ H s → (∀ b ∈ fp, FpOk X pins H b) → tn i s.heap → J.go i H →
    wpAny (model P w) X.A (pyNext (.ref it)) (fun r s1 => ∃ u, r = some u ∧
      wpAny (model P w) X.A (letOwnedTupleGo tg (.ref it) u) (fun _ s2 => ∃ x H', Inv X pins σ H' s2 ∧ RelV x u ∧ J.yld i H x H' ∧ tn (i + 1) s2.heap ∧ ∀ b ∈ fp, H' b = none) E s1) E s
  done : ∀ (X : Cx), X.prog = P → X.w = w → X.K = K → X.calm = true → ∀ (i : Nat) (pins : List (Addr × Obj)) (s : Shared) (σ : St) (H : Hp) (E : Value → Shared → Prop), Inv X pins σ H s → (∀ b ∈ fp, FpOk X pins H b) → tn i s.heap → J.stop i H →
    wpAny (model P w) X.A (pyNext (.ref it)) (fun r s1 => r = none ∧ Inv X pins σ H s1) E s
  self : ∀ (A : Around) (i : Nat) (s : Shared) (Q : Value → Shared → Prop) (E : Value → Shared → Prop), tn i s.heap → Q (.ref it) s → wpAny (model P w) A (pyIter (.ref it)) Q E s
abbrev TI := St → Hp → (It → Hp → Prop) → Prop
/-- an iterator has come -/
def PIE (X : Cx) (pins : List (Addr × Obj)) (σ : St) (tg : Expr) (R : It → Hp → Prop) (itv : Value) (s2 : Shared) : Prop :=
  ∃ (it : Addr) (fp : List Addr) (tn : Nat → Heap → Prop) (J : It) (H' : Hp), itv = .ref it ∧ Inv X pins σ H' s2 ∧ Turn X.prog X.w X.K tg J fp it tn ∧ tn 0 s2.heap ∧ (∀ b ∈ fp, FpOk X pins H' b) ∧ R J H'
def PI (X : Cx) (tg iter : Expr) (wi : TI) : Prop :=
  ∀ (pins : List (Addr × Obj)) (s : Shared) (σ : St) (H : Hp) (R : It → Hp → Prop), Inv X pins σ H s → wi σ H R →
    wpAny (model X.prog X.w) X.A (eval iter X.env) (fun v s1 => wpAny (model X.prog X.w) X.A (pyIter v) (PIE X pins σ tg R) X.xe s1) X.xe s
/-- the step ahead of the store is nothing for an iterator that keeps no tuple -/
theorem go_of {M : Model} {A : Around} {E : Value → Shared → Prop} {s : Shared} {tg : Expr} {it : Addr} {u : Value} {o : Obj} {n : String} {vs : Array Value} {Q : Unit → Shared → Prop} (ho : s.heap.get? it = some o) (hc : o.cls = .type n) (hd : o.data = .fields vs)
    (hn : ["enumerate", "zip", "dict_itemiterator", "dict_reverseitemiterator", "odict_iterator", "itertools.zip_longest", "itertools.pairwise"].contains n = false) (hQ : Q () s) : wpAny M A (letOwnedTupleGo tg (.ref it) u) Q E s := by
  unfold letOwnedTupleGo
  cases tg <;> first
    | exact wpAny_pure hQ
    | (cases u <;> first
        | exact wpAny_pure hQ
        | (refine wpAny_bind (wpAny_load ho ?_)
           rw [hc, hd]
           show wpAny M A (if (["enumerate", "zip", "dict_itemiterator", "dict_reverseitemiterator", "odict_iterator", "itertools.zip_longest", "itertools.pairwise"].contains n && vs[0]? == some (rawInt _)) = true then _ else _) Q E s
           rw [if_neg (by intro h; rw [hn, Bool.false_and] at h; cases h)]
           exact wpAny_pure hQ))
/-- the list at a, as it stands at each turn (a loop may append to it) -/
def Itl (K : PySem.W.Frag) (a : Addr) : It :=
  ⟨fun i H => ∃ xs x, SqL K H a xs ∧ xs[i]? = some x, fun i H x H' => H' = H ∧ ∀ xs, SqL K H a xs → xs[i]? = some x, fun i H => ∃ xs, SqL K H a xs ∧ xs.length ≤ i⟩
def Itt (K : PySem.W.Frag) (a : Addr) : It :=
  ⟨fun i H => ∃ xs x, SqT K H a xs ∧ xs[i]? = some x, fun i H x H' => H' = H ∧ ∀ xs, SqT K H a xs → xs[i]? = some x, fun i H => ∃ xs, SqT K H a xs ∧ xs.length ≤ i⟩
/-- lo, lo + 1, .. (n of them) -/
def Itr (lo : Int) (n : Nat) : It := ⟨fun i _ => i < n, fun i H x H' => H' = H ∧ x = .int (lo + i), fun i _ => n ≤ i⟩
theorem turn_list {P : Program} {w : World} {K : PySem.W.Frag} {tg : Expr} (a it : Addr) : Turn P w K tg (Itl K a) [it] it (fun i h => h.IsListIter it a i) where
  mem := by simp
  obj := fun i h st b hb => by
    have e : b = it := by simpa using hb
    subst e
    obtain ⟨o, e, c, d⟩ := st
    exact ⟨o, e, fun v z => by rw [d] at z; cases z⟩
  keep := fun i h h' st k => st.at fun o e => k it (by simp) o e
  item := by
    intro X hP hw hK hc i pins s σ H E I hf st hg
    subst hP hw hK
    obtain ⟨xs, x, hq, hx⟩ := hg
    obtain ⟨its, rv, p, hz⟩ := I.list hq
    obtain ⟨u, hu, ru⟩ := rv.get hx
    obtain ⟨f0, f1, f2, f3, f4, f5⟩ := hf it (by simp)
    refine wpAny_pyNext_list_item st p.isList (x := u) (by simpa using hu) fun h' st' sb => ?_
    have I1 : Inv X pins σ H { s with heap := h' } := I.turned (t' := s.toks) (fun b o hb e => (sb.2 b hb).trans e) f0 f1 f3 f4 f5
    obtain ⟨o, e, c, d⟩ := id st'
    exact ⟨u, rfl, go_of (s := { s with heap := h' }) e c d (by decide) ⟨x, H, I1, ru, ⟨rfl, fun ys hy => by rw [I.list_inj hy hq]; exact hx⟩, st', fun b hb => (hf b hb).1⟩⟩
  done := by
    intro X hP hw hK hc i pins s σ H E I hf st hg
    subst hP hw hK
    obtain ⟨xs, hq, hx⟩ := hg
    obtain ⟨its, rv, p, hz⟩ := I.list hq
    obtain ⟨f0, f1, f2, f3, f4, f5⟩ := hf it (by simp)
    have hl := rv.length
    exact wpAny_pyNext_list_end (I.ok.hd hc) st p.isList (by simp; omega) fun h' eb => ⟨rfl, I.turned (t' := s.toks) (fun b o hb e => eb b o hb e) f0 f1 f3 f4 f5⟩
  self := fun _ _ _ _ _ st h => wpAny_pyIter_listiter st h
theorem turn_tuple {P : Program} {w : World} {K : PySem.W.Frag} {tg : Expr} (a it : Addr) : Turn P w K tg (Itt K a) [it] it (fun i h => h.IsTupleIter it a i) where
  mem := by simp
  obj := fun i h st b hb => by
    have e : b = it := by simpa using hb
    subst e
    obtain ⟨o, e, c, d⟩ := st
    exact ⟨o, e, fun v z => by rw [d] at z; cases z⟩
  keep := fun i h h' st k => st.at fun o e => k it (by simp) o e
  item := by
    intro X hP hw hK hc i pins s σ H E I hf st hg
    subst hP hw hK
    obtain ⟨xs, x, hq, hx⟩ := hg
    obtain ⟨its, rv, p, hz⟩ := I.tuple hq
    obtain ⟨u, hu, ru⟩ := rv.get hx
    obtain ⟨f0, f1, f2, f3, f4, f5⟩ := hf it (by simp)
    refine wpAny_pyNext_tuple_item st (show s.heap.IsTuple a its.toArray from p) (x := u) (by simpa using hu) fun h' st' sb => ?_
    have I1 : Inv X pins σ H { s with heap := h' } := I.turned (t' := s.toks) (fun b o hb e => (sb.2 b hb).trans e) f0 f1 f3 f4 f5
    obtain ⟨o, e, c, d⟩ := id st'
    exact ⟨u, rfl, go_of (s := { s with heap := h' }) e c d (by decide) ⟨x, H, I1, ru, ⟨rfl, fun ys hy => by rw [I.tuple_inj hy hq]; exact hx⟩, st', fun b hb => (hf b hb).1⟩⟩
  done := by
    intro X hP hw hK hc i pins s σ H E I hf st hg
    subst hP hw hK
    obtain ⟨xs, hq, hx⟩ := hg
    obtain ⟨its, rv, p, hz⟩ := I.tuple hq
    obtain ⟨f0, f1, f2, f3, f4, f5⟩ := hf it (by simp)
    have hl := rv.length
    exact wpAny_pyNext_tuple_end (I.ok.hd hc) st (show s.heap.IsTuple a its.toArray from p) (by simp; omega) fun h' eb => ⟨rfl, I.turned (t' := s.toks) (fun b o hb e => eb b o hb e) f0 f1 f3 f4 f5⟩
  self := fun _ _ _ _ _ st h => wpAny_pyIter_tupleiter st h
theorem turn_range {P : Program} {w : World} {K : PySem.W.Frag} {tg : Expr} (it : Addr) (lo : Int) (n : Nat) : Turn P w K tg (Itr lo n) [it] it (fun i h => IsRangeIter h it (lo + (i : Nat) * 1) ((n : Int) - (i : Nat)) 1) where
  mem := by simp
  obj := fun i h st b hb => by
    have e : b = it := by simpa using hb
    subst e
    exact ⟨_, st, fun v z => by
      have z' : Data.fields _ = Data.cell v := z
      cases z'⟩
  keep := fun i h h' st k => k it (by simp) _ st
  item := by
    intro X hP hw hK hc i pins s σ H E I hf st hg
    subst hP hw hK
    obtain ⟨f0, f1, f2, f3, f4, f5⟩ := hf it (by simp)
    have W := Walks.range (prog := X.prog) (w := X.w) (I.ok.hd hc) it lo 1 n
    refine W.item i s _ _ hg st fun v h' tk hv st' kk => ?_
    obtain ⟨t, rfl⟩ := hv
    have I1 : Inv X pins σ H { s with heap := h', toks := tk } := I.turned (fun b o hb e => kk b o (by simpa using hb) e) f0 f1 f3 f4 f5
    refine ⟨_, rfl, go_of (s := { s with heap := h', toks := tk }) (n := "range_iterator") st' rfl rfl (by decide) ⟨.int (lo + i), H, I1, ⟨t, ?_⟩, ⟨rfl, rfl⟩, st', fun b hb => (hf b hb).1⟩⟩
    rw [Int.mul_one]
  done := by
    intro X hP hw hK hc i pins s σ H E I hf st hg
    subst hP hw hK
    obtain ⟨f0, f1, f2, f3, f4, f5⟩ := hf it (by simp)
    exact wpAny_pyNext_range_end (I.ok.hd hc) st (by have : n ≤ i := hg; omega) fun h' eb => ⟨rfl, I.turned (t' := s.toks) (fun b o hb e => eb b o hb e) f0 f1 f3 f4 f5⟩
  self := fun _ _ _ _ _ st h => wpAny_pyIter_rangeiter st h
end L2
namespace L2
open PySem PySem.Spec PyProof.Rows
section
variable {X : Cx} {tg : Expr}
def iList (K : PySem.W.Frag) (tl : TE) : TI := fun σ H R => tl σ H fun x H1 => ∃ a, x = .ref a ∧ (∃ xs, SqL K H1 a xs) ∧ R (Itl K a) H1
def iTup (K : PySem.W.Frag) (tl : TE) : TI := fun σ H R => tl σ H fun x H1 => ∃ a, x = .ref a ∧ (∃ xs, SqT K H1 a xs) ∧ R (Itt K a) H1
theorem pi_list {l : Expr} {tl : TE} (hl : PE X l tl) : PI X tg l (iList X.K tl) := by
  intro pins s σ H R I h
  refine thn (hl pins s σ H _ I h) fun v s1 ⟨x, H1, I1, r1, q1⟩ => ?_
  obtain ⟨a, e, ⟨xs, hq⟩, q⟩ := q1
  subst e
  cases r1
  obtain ⟨its, rv, p, hz⟩ := I1.list hq
  refine wpAny_pyIter_list p.isList ?_
  refine ⟨s1.heap.objs.size, [s1.heap.objs.size], _, _, H1, rfl, I1.kept (t' := s1.toks) fun b o e => Heap.get?_push_of_some _ e, turn_list a _, ⟨_, Heap.get?_push_size _ rfl, rfl, rfl⟩, fun b hb => ?_, q⟩
  have e : b = s1.heap.objs.size := by simpa using hb
  subst e
  exact I1.fpOk (Nat.le_refl _) (I1.hok.fresh (Nat.le_refl _))
theorem pi_tup {l : Expr} {tl : TE} (hl : PE X l tl) : PI X tg l (iTup X.K tl) := by
  intro pins s σ H R I h
  refine thn (hl pins s σ H _ I h) fun v s1 ⟨x, H1, I1, r1, q1⟩ => ?_
  obtain ⟨a, e, ⟨xs, hq⟩, q⟩ := q1
  subst e
  cases r1
  obtain ⟨its, rv, p, hz⟩ := I1.tuple hq
  refine wpAny_pyIter_tuple (show s1.heap.IsTuple a its.toArray from p) ?_
  refine ⟨s1.heap.objs.size, [s1.heap.objs.size], _, _, H1, rfl, I1.kept (t' := s1.toks) fun b o e => Heap.get?_push_of_some _ e, turn_tuple a _, ⟨_, Heap.get?_push_size _ rfl, rfl, rfl⟩, fun b hb => ?_, q⟩
  have e : b = s1.heap.objs.size := by simpa using hb
  subst e
  exact I1.fpOk (Nat.le_refl _) (I1.hok.fresh (Nat.le_refl _))
/-- a range object just made, walked -/
theorem range_it {pins : List (Addr × Obj)} {σ : St} {H : Hp} {s : Shared} {R : It → Hp → Prop} {E : Value → Shared → Prop} {lo hi : Int} {t u v : Tok} {tk : Nat} (I : Inv X pins σ H s) (h1 : -(2 ^ 62) ≤ lo) (h2 : lo < 2 ^ 62) (h3 : -(2 ^ 62) ≤ hi) (h4 : hi < 2 ^ 62)
    (q : R (Itr lo (hi - lo).toNat) H) : wpAny (model X.prog X.w) X.A (pyIter (.ref s.heap.objs.size)) (PIE X pins σ tg R) E { s with heap := s.heap.push { cls := .type "range", data := .fields #[.int lo t, .int hi u, .int 1 v] }, toks := tk } := by
  refine wpAny_pyIter_range (IsRange.new ..) (small_one h1 h2 h3 h4) ?_
  have I1 : Inv X pins σ H { s with heap := s.heap.push { cls := .type "range", data := .fields #[.int lo t, .int hi u, .int 1 v] }, toks := tk } := I.kept fun b o e => Heap.get?_push_of_some _ e
  refine ⟨(s.heap.push { cls := .type "range", data := .fields #[.int lo t, .int hi u, .int 1 v] }).objs.size, [(s.heap.push { cls := .type "range", data := .fields #[.int lo t, .int hi u, .int 1 v] }).objs.size], _, _, H, rfl,
    I1.kept (t' := tk) fun b o e => Heap.get?_push_of_some _ e, turn_range _ lo (hi - lo).toNat, ?_, fun b hb => ?_, q⟩
  · have e1 : lo + ((0 : Nat) : Int) * 1 = lo := by simp
    have e2 : (((hi - lo).toNat : Nat) : Int) - ((0 : Nat) : Int) = Builtin.Range.rangeSize lo hi 1 := by rw [rangeSize_one]; split <;> omega
    show IsRangeIter _ _ (lo + ((0 : Nat) : Int) * 1) ((((hi - lo).toNat : Nat) : Int) - ((0 : Nat) : Int)) 1
    rw [e1, e2]
    exact Heap.get?_push_size _ rfl
  · have e : b = (s.heap.push { cls := .type "range", data := .fields #[.int lo t, .int hi u, .int 1 v] }).objs.size := by simpa using hb
    subst e
    exact I1.fpOk (Nat.le_refl _) (I1.hok.fresh (Nat.le_refl _))
def iRng1 (ta : TA) : TI := fun σ H R => ta σ H fun vs H1 => ∃ j : Int, vs = [.int j] ∧ -(2 ^ 62) ≤ j ∧ j < 2 ^ 62 ∧ R (Itr 0 j.toNat) H1
def iRng2 (ta : TA) : TI := fun σ H R => ta σ H fun vs H1 => ∃ i j : Int, vs = [.int i, .int j] ∧ (-(2 ^ 62) ≤ i ∧ i < 2 ^ 62 ∧ -(2 ^ 62) ≤ j ∧ j < 2 ^ 62) ∧ R (Itr i (j - i).toNat) H1
theorem pi_range1 {a : Expr} {ta : TA} {p pos : Pos} (hg : Gl X "range") (hm : X.mg "range" = none) (ha : PA X [a] ta) (hs : starEach [a] X.env = [(false, eval a X.env)] := by rfl) : PI X tg (.Call (.Name "range" p) [a] [] pos) (iRng1 ta) := by
  intro pins s σ H R I h
  refine Call_ (ld_blt I hg hm boot_range (PyProof.Rows.callWith_type1 (thn (ha pos pins s σ H _ I h) fun us s1 ⟨vs, H1, I1, r1, q1⟩ => ?_) hs rfl))
  obtain ⟨j, e, q1, q2, q⟩ := q1
  subst e
  cases r1 with
  | cons r rr =>
    cases rr
    obtain ⟨t, rfl⟩ := r
    exact call_range_1 (range_it I1 (by omega) (by omega) q1 q2 (by simpa using q))
theorem pi_range2 {a b : Expr} {ta : TA} {p pos : Pos} (hg : Gl X "range") (hm : X.mg "range" = none) (ha : PA X [a, b] ta) (hs : starEach [a, b] X.env = [(false, eval a X.env), (false, eval b X.env)] := by rfl) (hs2 : starEach [b] X.env = [(false, eval b X.env)] := by rfl) :
    PI X tg (.Call (.Name "range" p) [a, b] [] pos) (iRng2 ta) := by
  intro pins s σ H R I h
  refine Call_ (ld_blt I hg hm boot_range (PyProof.Rows.callWith_type1 (thn (ha pos pins s σ H _ I h) fun us s1 ⟨vs, H1, I1, r1, q1⟩ => ?_) (by rw [hs, hs2]) (by rw [hs2]; rfl)))
  obtain ⟨i, j, e, ⟨q1, q2, q3, q4⟩, q⟩ := q1
  subst e
  cases r1 with
  | cons r rr =>
    cases rr with
    | cons r' rr =>
      cases rr
      obtain ⟨t, rfl⟩ := r
      obtain ⟨t', rfl⟩ := r'
      exact call_range_2 (range_it I1 q1 q2 q3 q4 q)
/-- W: the invariant by the turn and a measure; N: what the body is to reach -/
def tFor (wi : TI) (g : TG) (tb : TS) : TS := fun D σ H => wi σ H fun J H1 => ∃ W : Nat → Nat → St → Hp → Prop, (∃ m, W 0 m σ H1) ∧ ∀ i m σ H, W i m σ H →
  (J.stop i H ∧ D.nx σ H) ∨ (J.go i H ∧ ∃ N : St → Hp → Prop, (∀ σ' H', N σ' H' → ∃ m', m' < m ∧ W (i + 1) m' σ' H') ∧ ∀ x H', J.yld i H x H' → g x σ H' fun σ2 H2 => tb { D with nx := N, ct := N, bk := D.nx } σ2 H2)
/-- the records at fp as they stand -/
def pinsAt (fp : List Addr) (h : Heap) : List (Addr × Obj) := fp.filterMap fun b => (h.get? b).map fun o => (b, o)
theorem mem_pinsAt {fp : List Addr} {h : Heap} {b : Addr} {o : Obj} (hb : b ∈ fp) (e : h.get? b = some o) : (b, o) ∈ pinsAt fp h := List.mem_filterMap.mpr ⟨b, hb, by rw [e]; rfl⟩
theorem of_pinsAt {fp : List Addr} {h : Heap} {p : Addr × Obj} (hp : p ∈ pinsAt fp h) : p.1 ∈ fp ∧ h.get? p.1 = some p.2 := by
  obtain ⟨b, hb, e⟩ := List.mem_filterMap.mp hp
  cases q : h.get? b with
  | none => rw [q] at e; cases e
  | some o =>
    rw [q] at e
    have e' : (b, o) = p := Option.some.inj e
    subst e'
    exact ⟨hb, q⟩
theorem Inv.pinned {pins : List (Addr × Obj)} {σ : St} {H : Hp} {s : Shared} {fp : List Addr} (I : Inv X pins σ H s) (hf : ∀ b ∈ fp, FpOk X pins H b) (ho : ∀ b ∈ fp, ∃ o, s.heap.get? b = some o ∧ ∀ v, o.data ≠ .cell v) : Inv X (pins ++ pinsAt fp s.heap) σ H s :=
  I.pins_of fun p hp => (List.mem_append.mp hp).elim (fun z => I.pin p (List.mem_append_right _ z)) fun z => by
    obtain ⟨hb, e⟩ := of_pinsAt z
    obtain ⟨f0, f1, f2, _⟩ := hf p.1 hb
    obtain ⟨o, e', d⟩ := ho p.1 hb
    rw [e] at e'; cases e'
    exact ⟨e, f0, f1, f2, d⟩
theorem Inv.unpinned {pins pl : List (Addr × Obj)} {σ : St} {H : Hp} {s : Shared} (I : Inv X (pins ++ pl) σ H s) : Inv X pins σ H s := I.pins_of fun p hp => I.pin p (List.mem_append_right _ (List.mem_append_left _ hp))
theorem ps_for {iter : Expr} {body : List Stmt} {wi : TI} {g : TG} {tb : TS} {pos : Pos} (hp : PassesOwn (model X.prog X.w) X.A X.env X.xe) (hc : X.calm = true) (hi : PI X tg iter wi) (hg : PG X tg g) (hb : PSs X body tb)
    (hs : ∀ x, foldedSetIterable iter X.env x = pure x := by intro _; rfl) : PS X (.For tg iter body [] pos) (tFor wi g tb) := by
  intro pins s σ H D I h
  refine wpAny_For (thn (hi pins s σ H _ I h) fun v s1 h1 => thn h1 fun itv s2 h2 => ?_) hs
  obtain ⟨it, fp, tn, J, H2, e, I2, T, st2, f2, W, ⟨m0, w0⟩, turn⟩ := h2
  subst e
  have stat : ∀ {H' : Hp}, (∀ b ∈ fp, H' b = none) → ∀ b ∈ fp, FpOk X pins H' b := fun hn b hb => ⟨hn b hb, (f2 b hb).2⟩
  refine codeAny_forLoop_any (fun n s' => ∃ i σ' H', Inv X pins σ' H' s' ∧ tn i s'.heap ∧ (∀ b ∈ fp, H' b = none) ∧ W i n σ' H') ?_ m0 ⟨0, σ, H2, I2, st2, fun b hb => (f2 b hb).1, w0⟩
  rintro n s3 ⟨i, σ3, H3, I3, st3, fr3, w3⟩
  rcases turn i n σ3 H3 w3 with ⟨stop, qn⟩ | ⟨go, N, hN, step⟩
  · refine wpAny_passesOwn hp (thn (T.done X rfl rfl rfl hc i pins s3 σ3 H3 X.xe I3 (stat fr3) st3 stop) fun r s4 ⟨hr, I4⟩ => ?_)
    subst hr
    exact wpAny_execs_nil ⟨σ3, H3, I4, qn⟩
  · refine wpAny_passesOwn hp (thn (T.item X rfl rfl rfl hc i pins s3 σ3 H3 X.xe I3 (stat fr3) st3 go) fun r s4 ⟨u, hr, h4⟩ => ?_)
    subst hr
    refine wpAny_passesOwn hp (thn h4 fun _ s5 ⟨x, H5, I5, r5, y5, st5, fr5⟩ => ?_)
    have I5' := I5.pinned (stat fr5) (T.obj _ _ st5)
    refine wpAny_passesOwn hp (thn (hg _ s5 σ3 H5 x u _ I5' r5 (step x H5 y5)) fun _ s6 ⟨σ6, H6, I6, q6⟩ => ?_)
    refine wpAny_passesOwn hp (thn (hb _ s6 σ6 H6 _ I6 q6) fun f s7 q7 => ?_)
    have again : ∀ {σ7 : St} {H7 : Hp}, Inv X (pins ++ pinsAt fp s5.heap) σ7 H7 s7 → N σ7 H7 → ∃ m, m < n ∧ ∃ i σ' H', Inv X pins σ' H' s7 ∧ tn i s7.heap ∧ (∀ b ∈ fp, H' b = none) ∧ W i m σ' H' := fun {σ7 H7} I7 n7 => by
      obtain ⟨m', hm, w7⟩ := hN σ7 H7 n7
      refine ⟨m', hm, i + 1, σ7, H7, I7.unpinned, T.keep _ _ _ st5 fun b hb o e => (I7.pin (b, o) (List.mem_append_right _ (List.mem_append_right _ (mem_pinsAt hb e)))).1, fun b hb => ?_, w7⟩
      obtain ⟨o, e, d⟩ := T.obj _ _ st5 b hb
      exact (I7.pin (b, o) (List.mem_append_right _ (List.mem_append_right _ (mem_pinsAt hb e)))).2.1
    cases f with
    | next => obtain ⟨σ7, H7, I7, n7⟩ := q7; exact again I7 n7
    | cont => obtain ⟨σ7, H7, I7, n7⟩ := q7; exact again I7 n7
    | brk => obtain ⟨σ7, H7, I7, q7⟩ := q7; exact ⟨σ7, H7, I7.unpinned, q7⟩
    | ret v => obtain ⟨x7, σ7, H7, I7, r7, q7⟩ := q7; exact ⟨x7, σ7, H7, I7.unpinned, r7, q7⟩
end
theorem for_tup {K : PySem.W.Frag} {a : Addr} {xs : List V} {g : TG} {tb : TS} {D : Ends} {σ : St} {H : Hp} (Pv : Nat → St → Hp → Prop) (h0 : Pv 0 σ H) (hl : ∀ i σ H, i ≤ xs.length → Pv i σ H → SqT K H a xs)
    (hs : ∀ i x σ H, xs[i]? = some x → Pv i σ H → g x σ H fun σ2 H2 => tb { D with nx := Pv (i + 1), ct := Pv (i + 1), bk := D.nx } σ2 H2) (hd : ∀ σ H, Pv xs.length σ H → D.nx σ H) :
    ∃ W : Nat → Nat → St → Hp → Prop, (∃ m, W 0 m σ H) ∧ ∀ i m σ H, W i m σ H →
      ((Itt K a).stop i H ∧ D.nx σ H) ∨ ((Itt K a).go i H ∧ ∃ N : St → Hp → Prop, (∀ σ' H', N σ' H' → ∃ m', m' < m ∧ W (i + 1) m' σ' H') ∧ ∀ x H', (Itt K a).yld i H x H' → g x σ H' fun σ2 H2 => tb { D with nx := N, ct := N, bk := D.nx } σ2 H2) := by
  refine ⟨fun i m σ H => m = xs.length - i ∧ i ≤ xs.length ∧ Pv i σ H, ⟨xs.length, by simp, Nat.zero_le _, h0⟩, ?_⟩
  rintro i m σ H ⟨rfl, hi, p⟩
  have q := hl i σ H hi p
  by_cases hlt : i < xs.length
  · refine .inr ⟨⟨xs, xs[i], q, by simp [hlt]⟩, Pv (i + 1), fun σ' H' p' => ⟨xs.length - (i + 1), by omega, rfl, hlt, p'⟩, fun x H' y => ?_⟩
    obtain ⟨e, y⟩ := y
    subst e
    exact hs i x σ _ (y xs q) p
  · have e : i = xs.length := by omega
    subst e
    exact .inl ⟨⟨xs, q, Nat.le_refl _⟩, hd σ H p⟩
theorem for_range {lo : Int} {n : Nat} {g : TG} {tb : TS} {D : Ends} {σ : St} {H : Hp} (Pv : Nat → St → Hp → Prop) (h0 : Pv 0 σ H)
    (hs : ∀ i σ H, i < n → Pv i σ H → g (.int (lo + i)) σ H fun σ2 H2 => tb { D with nx := Pv (i + 1), ct := Pv (i + 1), bk := D.nx } σ2 H2) (hd : ∀ σ H, Pv n σ H → D.nx σ H) :
    ∃ W : Nat → Nat → St → Hp → Prop, (∃ m, W 0 m σ H) ∧ ∀ i m σ H, W i m σ H →
      ((Itr lo n).stop i H ∧ D.nx σ H) ∨ ((Itr lo n).go i H ∧ ∃ N : St → Hp → Prop, (∀ σ' H', N σ' H' → ∃ m', m' < m ∧ W (i + 1) m' σ' H') ∧ ∀ x H', (Itr lo n).yld i H x H' → g x σ H' fun σ2 H2 => tb { D with nx := N, ct := N, bk := D.nx } σ2 H2) := by
  refine ⟨fun i m σ H => m = n - i ∧ i ≤ n ∧ Pv i σ H, ⟨n, by simp, Nat.zero_le _, h0⟩, ?_⟩
  rintro i m σ H ⟨rfl, hi, p⟩
  by_cases hlt : i < n
  · refine .inr ⟨hlt, Pv (i + 1), fun σ' H' p' => ⟨n - (i + 1), by omega, rfl, hlt, p'⟩, fun x H' y => ?_⟩
    obtain ⟨e, y⟩ := y
    subst e y
    exact hs i σ _ hlt p
  · have e : i = n := by omega
    subst e
    exact .inl ⟨Nat.le_refl _, hd σ H p⟩
end L2
namespace L2
open PySem PySem.Spec PyProof.Rows
abbrev R2 := V → V → Hp → VK → Prop
/-- a two-place operation on values: f is binaryOp op, inplaceOp op or compareOp op -/
def OpR (X : Cx) (f : Value → Value → Sem Value) (r : R2) : Prop :=
  ∀ (pins : List (Addr × Obj)) (s : Shared) (σ : St) (H : Hp) (x y : V) (v u : Value) (Q : VK), Inv X pins σ H s → RelV x v → RelV y u → r x y H Q →
    wpAny (model X.prog X.w) X.A (f v u) (EP X pins σ Q) X.xe s
/-- a one-place operation -/
def UnR (X : Cx) (f : Value → Sem Value) (r : V → Hp → VK → Prop) : Prop :=
  ∀ (pins : List (Addr × Obj)) (s : Shared) (σ : St) (H : Hp) (x : V) (v : Value) (Q : VK), Inv X pins σ H s → RelV x v → r x H Q →
    wpAny (model X.prog X.w) X.A (f v) (EP X pins σ Q) X.xe s
/-- a call of a value that is known (a builtin, a type) with values -/
def CallR (X : Cx) (f : Value) (r : List V → Hp → VK → Prop) : Prop :=
  ∀ (pins : List (Addr × Obj)) (s : Shared) (σ : St) (H : Hp) (xs : List V) (us : List Value) (Q : VK), Inv X pins σ H s → Vals xs us → r xs H Q →
    wpAny (model X.prog X.w) X.A (call f us) (EP X pins σ Q) X.xe s
def tOp (r : R2) (ta tb : TE) : TE := fun σ H Q => ta σ H fun x H1 => tb σ H1 fun y H2 => r x y H2 Q
def tUn (r : V → Hp → VK → Prop) (ta : TE) : TE := fun σ H Q => ta σ H fun x H1 => r x H1 Q
/-- ints in, under C, and a value out -/
def rI (C : Int → Int → Prop) (g : Int → Int → V) : R2 := fun x y H Q => ∃ i j, x = .int i ∧ y = .int j ∧ C i j ∧ Q (g i j) H
def rI0 (g : Int → Int → V) : R2 := fun x y H Q => ∃ i j, x = .int i ∧ y = .int j ∧ Q (g i j) H
def rU (g : Int → V) : V → Hp → VK → Prop := fun x H Q => ∃ i, x = .int i ∧ Q (g i) H
section
variable {X : Cx} {a b c : Expr} {ta tb tc : TE} {pos : Pos}
theorem binT (ha : PE X a ta) (hb : PE X b tb) {pins : List (Addr × Obj)} {s : Shared} {σ : St} {H : Hp} {R : V → V → Hp → Prop} (I : Inv X pins σ H s)
    (h : ta σ H fun x H1 => tb σ H1 fun y H2 => R x y H2) {Q : Value → Shared → Prop} {f : Value → Value → Sem Value}
    (hf : ∀ v u s2 x y H2, Inv X pins σ H2 s2 → RelV x v → RelV y u → R x y H2 → wpAny (model X.prog X.w) X.A (f v u) Q X.xe s2) :
    wpAny (model X.prog X.w) X.A (eval a X.env) (fun v s₁ => wpAny (model X.prog X.w) X.A (eval b X.env) (fun u s₂ => wpAny (model X.prog X.w) X.A (f v u) Q X.xe s₂) X.xe s₁) X.xe s := by
  refine thn (ha pins s σ H _ I h) fun v s1 ⟨x, H1, I1, r1, q1⟩ => ?_
  refine thn (hb pins s1 σ H1 _ I1 q1) fun u s2 ⟨y, H2, I2, r2, q2⟩ => ?_
  exact hf v u s2 x y H2 I2 r1 r2 q2
theorem pe_op {op : Operator} {r : R2} (ho : OpR X (binaryOp op) r) (ha : PE X a ta) (hb : PE X b tb) : PE X (.BinOp a op b pos) (tOp r ta tb) := by
  intro pins s σ H Q I h
  exact wpAny_BinOp (binT ha hb I h fun v u s2 x y H2 I2 rx ry q => ho pins s2 σ H2 x y v u Q I2 rx ry q)
theorem pe_un {op : UnaryOp} {r : V → Hp → VK → Prop} (ho : UnR X (unaryOp op) r) (ha : PE X a ta) : PE X (.UnaryOp op a pos) (tUn r ta) := by
  intro pins s σ H Q I h
  exact UnaryOp_ (thn (ha pins s σ H _ I h) fun v s1 ⟨x, H1, I1, r1, q1⟩ => ho pins s1 σ H1 x v Q I1 r1 q1)
theorem opI {f : Value → Value → Sem Value} {C : Int → Int → Prop} {g : Int → Int → Int}
    (rule : ∀ (i j : Int) (t u : Tok) (s : Shared) (Q : Value → Shared → Prop) (E : Value → Shared → Prop), C i j → Q (.int (g i j) s.toks) { s with toks := s.toks + 1 } → wpAny (model X.prog X.w) X.A (f (.int i t) (.int j u)) Q E s) :
    OpR X f (rI C fun i j => .int (g i j)) := by
  intro pins s σ H x y v u Q I rx ry h
  obtain ⟨i, j, rfl, rfl, hc, q⟩ := h
  obtain ⟨t, rfl⟩ := rx
  obtain ⟨t', rfl⟩ := ry
  exact rule i j t t' s _ _ hc ⟨.int (g i j), H, I.tok _, ⟨_, rfl⟩, q⟩
theorem opI0 {f : Value → Value → Sem Value} {g : Int → Int → Int}
    (rule : ∀ (i j : Int) (t u : Tok) (s : Shared) (Q : Value → Shared → Prop) (E : Value → Shared → Prop), Q (.int (g i j) s.toks) { s with toks := s.toks + 1 } → wpAny (model X.prog X.w) X.A (f (.int i t) (.int j u)) Q E s) :
    OpR X f (rI0 fun i j => .int (g i j)) := by
  intro pins s σ H x y v u Q I rx ry h
  obtain ⟨i, j, rfl, rfl, q⟩ := h
  obtain ⟨t, rfl⟩ := rx
  obtain ⟨t', rfl⟩ := ry
  exact rule i j t t' s _ _ ⟨.int (g i j), H, I.tok _, ⟨_, rfl⟩, q⟩
theorem opB0 {f : Value → Value → Sem Value} {g : Int → Int → Bool}
    (rule : ∀ (i j : Int) (t u : Tok) (s : Shared) (Q : Value → Shared → Prop) (E : Value → Shared → Prop), Q (.bool (g i j)) s → wpAny (model X.prog X.w) X.A (f (.int i t) (.int j u)) Q E s) :
    OpR X f (rI0 fun i j => .bl (g i j)) := by
  intro pins s σ H x y v u Q I rx ry h
  obtain ⟨i, j, rfl, rfl, q⟩ := h
  obtain ⟨t, rfl⟩ := rx
  obtain ⟨t', rfl⟩ := ry
  exact rule i j t t' s _ _ ⟨.bl (g i j), H, I, rfl, q⟩
def CMul (i j : Int) : Prop := (-(2 ^ 64) < i ∧ i < 2 ^ 64) ∨ (-(2 ^ 64) < j ∧ j < 2 ^ 64)
theorem CMul.ok {i j : Int} (h : CMul i j) : IntMulOk i j := by
  rcases h with ⟨h1, h2⟩ | ⟨h1, h2⟩
  · exact .of_left (intBits_le_64 h1 h2)
  · exact .of_right (intBits_le_64 h1 h2)
theorem op_add : OpR X (binaryOp .Add) (rI0 fun i j => .int (i + j)) := opI0 fun _ _ _ _ _ _ _ q => add_int q
theorem op_sub : OpR X (binaryOp .Sub) (rI0 fun i j => .int (i - j)) := opI0 fun _ _ _ _ _ _ _ q => sub_int q
theorem op_mul : OpR X (binaryOp .Mult) (rI CMul fun i j => .int (i * j)) := opI fun _ _ _ _ _ _ _ hc q => mul_int q hc.ok
/-- % by a positive divisor of any size -/
theorem op_mod : OpR X (binaryOp .Mod) (rI (fun _ j => 0 < j) fun i j => .int (i % j)) := opI fun i j _ _ _ _ _ hc q => by
  have h1 : (0 : Int) < j := hc
  exact mod_int' (by omega) (by rw [Int.fmod_eq_emod_of_nonneg i (by omega)]; exact q)
theorem unI {f : Value → Sem Value} {g : Int → Int}
    (rule : ∀ (i : Int) (t : Tok) (s : Shared) (Q : Value → Shared → Prop) (E : Value → Shared → Prop), Q (.int (g i) s.toks) { s with toks := s.toks + 1 } → wpAny (model X.prog X.w) X.A (f (.int i t)) Q E s) :
    UnR X f (rU fun i => .int (g i)) := by
  intro pins s σ H x v Q I rx h
  obtain ⟨i, rfl, q⟩ := h
  obtain ⟨t, rfl⟩ := rx
  exact rule i t s _ _ ⟨.int (g i), H, I.tok _, ⟨_, rfl⟩, q⟩
theorem un_neg : UnR X (unaryOp .USub) (rU fun i => .int (-i)) := unI fun _ _ _ _ _ q => neg_int q
end
/-- the scalars that == tells apart as data does -/
def scal : V → V → Bool
  | .non, .non => true | .non, .int _ => true | .int _, .non => true | .non, .bl _ => true | .bl _, .non => true | .non, .str _ => true | .str _, .non => true
  | .int _, .int _ => true | .bl _, .bl _ => true | .str _, .str _ => true | .byt _, .byt _ => true
  | .int _, .str _ => true | .str _, .int _ => true | .bl _, .str _ => true | .str _, .bl _ => true
  | _, _ => false
def rEq : R2 := fun x y H Q => scal x y = true ∧ Q (.bl (decide (x = y))) H
def rNe : R2 := fun x y H Q => scal x y = true ∧ Q (.bl (!decide (x = y))) H
theorem dec_int {i j : Int} : decide (V.int i = V.int j) = (i == j) := by
  rw [Bool.eq_iff_iff]
  simp
theorem dec_bl {i j : Bool} : decide (V.bl i = V.bl j) = (i == j) := by
  rw [Bool.eq_iff_iff]
  simp
theorem dec_str {i j : Str} : decide (V.str i = V.str j) = (i == j) := by
  rw [Bool.eq_iff_iff]
  simp
theorem dec_byt {i j : Array UInt8} : decide (V.byt i = V.byt j) = (i.toList == j.toList) := by
  rw [Bool.eq_iff_iff]
  cases i
  cases j
  simp
section
variable {X : Cx} {a b c : Expr} {ta tb tc : TE} {pos : Pos}
theorem fin_bl {pins : List (Addr × Obj)} {σ : St} {H : Hp} {s : Shared} {Q : VK} {k k' : Bool} (I : Inv X pins σ H s) (q : Q (.bl k) H) (e : k = k') : EP X pins σ Q (.bool k') s := by
  subst e
  exact ⟨.bl k, H, I, rfl, q⟩
theorem op_eq : OpR X (compareOp .Eq) rEq := by
  intro pins s σ H x y v u Q I rx ry h
  obtain ⟨hs, q⟩ := h
  cases x with
  | non =>
    cases rx
    cases y with
    | non => cases ry; exact PySem.EqNone.eq_none_none (fin_bl I q (by simp))
    | bl j => cases ry; exact PySem.EqNone.eq_none_bool (fin_bl I q (by simp))
    | int j => obtain ⟨t', rfl⟩ := ry; exact PySem.EqNone.eq_none_int (fin_bl I q (by simp))
    | str j => obtain ⟨t', rfl⟩ := ry; exact PySem.EqNone.eq_none_str (fin_bl I q (by simp))
    | _ => exact absurd (show false = true from hs) Bool.false_ne_true
  | bl i =>
    cases rx
    cases y with
    | non => cases ry; exact PySem.EqNone.eq_bool_none (fin_bl I q (by simp))
    | bl j => cases ry; exact eq_bool (fin_bl I q dec_bl)
    | str j => obtain ⟨t', rfl⟩ := ry; exact PySem.EqMixed.eq_bool_str (fin_bl I q (by simp))
    | _ => exact absurd (show false = true from hs) Bool.false_ne_true
  | int i =>
    obtain ⟨t, rfl⟩ := rx
    cases y with
    | non => cases ry; exact PySem.EqNone.eq_int_none (fin_bl I q (by simp))
    | int j => obtain ⟨t', rfl⟩ := ry; exact eq_int (fin_bl I q dec_int)
    | str j => obtain ⟨t', rfl⟩ := ry; exact PySem.EqMixed.eq_int_str (fin_bl I q (by simp))
    | _ => exact absurd (show false = true from hs) Bool.false_ne_true
  | str i =>
    obtain ⟨t, rfl⟩ := rx
    cases y with
    | non => cases ry; exact PySem.EqNone.eq_str_none (fin_bl I q (by simp))
    | bl j => cases ry; exact PySem.EqMixed.eq_str_bool (fin_bl I q (by simp))
    | int j => obtain ⟨t', rfl⟩ := ry; exact PySem.EqMixed.eq_str_int (fin_bl I q (by simp))
    | str j => obtain ⟨t', rfl⟩ := ry; exact eq_str (fin_bl I q dec_str)
    | _ => exact absurd (show false = true from hs) Bool.false_ne_true
  | byt i =>
    obtain ⟨t, rfl⟩ := rx
    cases y with
    | byt j => obtain ⟨t', rfl⟩ := ry; exact PySem.W.eq_bytes (fin_bl I q dec_byt)
    | _ => exact absurd (show false = true from hs) Bool.false_ne_true
  | _ => cases y <;> exact absurd (show false = true from hs) Bool.false_ne_true
theorem op_ne : OpR X (compareOp .NotEq) rNe := by
  intro pins s σ H x y v u Q I rx ry h
  obtain ⟨hs, q⟩ := h
  cases x with
  | non =>
    cases rx
    cases y with
    | non => cases ry; exact PySem.EqNone.ne_none_none (fin_bl I q (by simp))
    | bl j => cases ry; exact PySem.EqNone.ne_none_bool (fin_bl I q (by simp))
    | int j => obtain ⟨t', rfl⟩ := ry; exact PySem.EqNone.ne_none_int (fin_bl I q (by simp))
    | str j => obtain ⟨t', rfl⟩ := ry; exact PySem.EqNone.ne_none_str (fin_bl I q (by simp))
    | _ => exact absurd (show false = true from hs) Bool.false_ne_true
  | bl i =>
    cases rx
    cases y with
    | non => cases ry; exact PySem.EqNone.ne_bool_none (fin_bl I q (by simp))
    | bl j => cases ry; exact ne_bool (fin_bl I q (congrArg not dec_bl))
    | str j => obtain ⟨t', rfl⟩ := ry; exact PySem.EqMixed.ne_bool_str (fin_bl I q (by simp))
    | _ => exact absurd (show false = true from hs) Bool.false_ne_true
  | int i =>
    obtain ⟨t, rfl⟩ := rx
    cases y with
    | non => cases ry; exact PySem.EqNone.ne_int_none (fin_bl I q (by simp))
    | int j => obtain ⟨t', rfl⟩ := ry; exact ne_int (fin_bl I q (congrArg not dec_int))
    | str j => obtain ⟨t', rfl⟩ := ry; exact PySem.EqMixed.ne_int_str (fin_bl I q (by simp))
    | _ => exact absurd (show false = true from hs) Bool.false_ne_true
  | str i =>
    obtain ⟨t, rfl⟩ := rx
    cases y with
    | non => cases ry; exact PySem.EqNone.ne_str_none (fin_bl I q (by simp))
    | bl j => cases ry; exact PySem.EqMixed.ne_str_bool (fin_bl I q (by simp))
    | int j => obtain ⟨t', rfl⟩ := ry; exact PySem.EqMixed.ne_str_int (fin_bl I q (by simp))
    | str j => obtain ⟨t', rfl⟩ := ry; exact ne_str (fin_bl I q (congrArg not dec_str))
    | _ => exact absurd (show false = true from hs) Bool.false_ne_true
  | byt i =>
    obtain ⟨t, rfl⟩ := rx
    cases y with
    | byt j => obtain ⟨t', rfl⟩ := ry; exact PySem.W.ne_bytes (fin_bl I q (congrArg not dec_byt))
    | _ => exact absurd (show false = true from hs) Bool.false_ne_true
  | _ => cases y <;> exact absurd (show false = true from hs) Bool.false_ne_true
theorem op_lt : OpR X (compareOp .Lt) (rI0 fun i j => .bl (decide (i < j))) := opB0 fun _ _ _ _ _ _ _ q => lt_int q
theorem op_le : OpR X (compareOp .LtE) (rI0 fun i j => .bl (decide (i ≤ j))) := opB0 fun _ _ _ _ _ _ _ q => le_int q
theorem op_gt : OpR X (compareOp .Gt) (rI0 fun i j => .bl (decide (j < i))) := opB0 fun _ _ _ _ _ _ _ q => gt_int q
theorem op_ge : OpR X (compareOp .GtE) (rI0 fun i j => .bl (decide (j ≤ i))) := opB0 fun _ _ _ _ _ _ _ q => ge_int q
theorem nomark (b : Expr) {op : CmpOp} (h : op ≠ .In := by decide) (h2 : op ≠ .NotIn := by decide) : behindInMarks op b = false := by
  have e1 : (op == CmpOp.In) = false := by cases op <;> first | rfl | exact absurd rfl h
  have e2 : (op == CmpOp.NotIn) = false := by cases op <;> first | rfl | exact absurd rfl h2
  cases b <;> simp [behindInMarks, e1, e2]
/-- a comparison as a value; hm: nomark b, or (for in, not in) by with_unfolding_all rfl -/
theorem pe_cmpR {op : CmpOp} {r : R2} (ho : OpR X (compareOp op) r) (ha : PE X a ta) (hb : PE X b tb) (hm : behindInMarks op b = false) : PE X (.Compare a [op] [b] pos) (tOp r ta tb) := by
  intro pins s σ H Q I h
  exact wpAny_Compare1 (binT ha hb I h fun v u s2 x y H2 I2 rx ry q => ho pins s2 σ H2 x y v u Q I2 rx ry q) hm
/-- a reading of a value as a test -/
def tTest (t : TE) : TT := fun σ H Q => t σ H fun x H' => ∃ k, x = .bl k ∧ Q k H'
theorem pt_cmpR {op : CmpOp} {r : R2} (ho : OpR X (compareOp op) r) (ha : PE X a ta) (hb : PE X b tb) (hm : behindInMarks op b = false) : PT X (.Compare a [op] [b] pos) (tTest (tOp r ta tb)) := by
  intro pins s σ H Q I h
  refine wpAny_isTrue_Compare1 (thn (ha pins s σ H _ I h) fun v s1 ⟨x, H1, I1, r1, q1⟩ => thn (hb pins s1 σ H1 _ I1 q1) fun u s2 ⟨y, H2, I2, r2, q2⟩ =>
    thn (ho pins s2 σ H2 x y v u _ I2 r1 r2 q2) fun c s3 ⟨z, H3, I3, r3, k, e, q3⟩ => ?_) hm
  subst e
  cases r3
  exact wpAny_truthy_bool ⟨H3, I3, q3⟩
/-- a op1 b op2 c -/
def tChain (r r' : R2) (ta tb tc : TE) : TE := fun σ H Q => ta σ H fun x H1 => tb σ H1 fun y H2 => r x y H2 fun z H3 => ∃ k, z = .bl k ∧
  (if k = true then tc σ H3 fun w' H4 => r' y w' H4 Q else Q (.bl false) H3)
theorem pe_chain {op op' : CmpOp} {r r' : R2} (ho : OpR X (compareOp op) r) (ho' : OpR X (compareOp op') r') (ha : PE X a ta) (hb : PE X b tb) (hc : PE X c tc)
    (hm : lastMarks [op, op'] [b, c] = false := by with_unfolding_all rfl) : PE X (.Compare a [op, op'] [b, c] pos) (tChain r r' ta tb tc) := by
  intro pins s σ H Q I h
  refine Compare_chain (thn (ha pins s σ H _ I h) fun v s1 ⟨x, H1, I1, r1, q1⟩ => chain_link (thn (hb pins s1 σ H1 _ I1 q1) fun u s2 ⟨y, H2, I2, r2, q2⟩ =>
    thn (ho pins s2 σ H2 x y v u _ I2 r1 r2 q2) fun d s3 ⟨z, H3, I3, r3, k, e, q3⟩ => ?_)) hm
  subst e
  cases r3
  refine wpAny_truthy_bool ?_
  cases k with
  | false => exact ite_ff ⟨.bl false, H3, I3, rfl, q3⟩
  | true => exact ite_tt (chain_last (thn (hc pins s3 σ H3 _ I3 q3) fun w' s4 ⟨z', H4, I4, r4, q4⟩ => ho' pins s4 σ H4 y z' u w' Q I4 r2 r4 q4))
theorem pt_chain {op op' : CmpOp} {r r' : R2} (ho : OpR X (compareOp op) r) (ho' : OpR X (compareOp op') r') (ha : PE X a ta) (hb : PE X b tb) (hc : PE X c tc)
    (hm : lastMarks [op, op'] [b, c] = false := by with_unfolding_all rfl) : PT X (.Compare a [op, op'] [b, c] pos) (tTest (tChain r r' ta tb tc)) := by
  intro pins s σ H Q I h
  refine isTrue_chain (thn (ha pins s σ H _ I h) fun v s1 ⟨x, H1, I1, r1, q1⟩ => test_link (thn (hb pins s1 σ H1 _ I1 q1) fun u s2 ⟨y, H2, I2, r2, q2⟩ =>
    thn (ho pins s2 σ H2 x y v u _ I2 r1 r2 q2) fun d s3 ⟨z, H3, I3, r3, k, e, q3⟩ => ?_)) hm
  subst e
  cases r3
  refine wpAny_truthy_bool ?_
  cases k with
  | false =>
    obtain ⟨k', e', q'⟩ := q3
    cases e'
    exact ite_ff ⟨H3, I3, q'⟩
  | true =>
    refine ite_tt (test_last (thn (hc pins s3 σ H3 _ I3 q3) fun w' s4 ⟨z', H4, I4, r4, q4⟩ => thn (ho' pins s4 σ H4 y z' u w' _ I4 r2 r4 q4) fun d' s5 ⟨z2, H5, I5, r5, k2, e2, q5⟩ => ?_))
    subst e2
    cases r5
    exact wpAny_truthy_bool ⟨H5, I5, q5⟩
theorem line63 : (sizeLine : Nat) < 2 ^ 63 := by rw [sizeLine_eq]; decide
theorem vals1 {x : V} {us : List Value} (r : Vals [x] us) : ∃ u, us = [u] ∧ RelV x u := by
  cases r with
  | cons r1 r2 => cases r2; exact ⟨_, rfl, r1⟩
theorem call_abs : CallR X (.builtin "abs") (fun xs H Q => ∃ i, xs = [.int i] ∧ Q (.int (if i < 0 then -i else i)) H) := by
  intro pins s σ H xs us Q I r h
  obtain ⟨i, rfl, q⟩ := h
  obtain ⟨u, rfl, t, rfl⟩ := vals1 r
  exact call_abs_int fun u tk => ⟨.int (if i < 0 then -i else i), H, I.tok _, ⟨_, rfl⟩, q⟩
end
end L2
namespace L2
open PySem PySem.Spec PyProof.Rows
structure ObjM (h : Heap) (x dx C : Addr) (mA : Str → Option Value) : Prop where
  obj : h.get? x = some (PySem.W.instObj C dx)
  ns : h.Ns1 dx mA
  ne : dx ≠ x
theorem lookIn_ns {h : Heap} {dx : Addr} {mA : Str → Option Value} (n : h.Ns1 dx mA) : ∃ od, h.get? dx = some od ∧ ∀ name, PySem.W.lookIn name od = some (mA name) := by
  obtain ⟨o, es, ep, ho, hd, hk, _, hm⟩ := n
  refine ⟨o, ho, fun name => ?_⟩
  have e := hm name
  unfold nsFind findBy at e
  rw [← Array.find?_toList] at e
  unfold PySem.W.lookIn
  rw [hd]
  dsimp only
  split
  · rename_i y q
    rw [q] at e
    exact congrArg some e
  · rename_i q
    rw [q] at e
    have a : es.toList.any (·.refKey) = false := by
      rw [List.any_eq_false]
      intro y hy
      obtain ⟨z, t, hkey⟩ := hk y (Array.mem_toList_iff.mp hy)
      simp [DictEntry.refKey, hkey]
    have a' : ¬ es.toList.any (·.refKey) = true := by rw [a]; exact Bool.false_ne_true
    rw [if_neg a']
    exact congrArg some e
theorem ObjM.look {h : Heap} {x dx C : Addr} {mA : Str → Option Value} (I : ObjM h x dx C mA) : ∃ od, PySem.W.InstAt h x (PySem.W.instObj C dx) C (some od) ∧ ∀ name, PySem.W.lookIn name od = some (mA name) :=
  let ⟨od, ho, hl⟩ := lookIn_ns I.ns
  ⟨od, ⟨I.obj, rfl, rfl, ho⟩, hl⟩
section
variable {prog : Program} {w : World} {A : Around} {E : Value → Shared → Prop} {s : Shared} {K : PySem.W.Frag} {x dx C f : Addr} {mA : Str → Option Value} {name : Str} {v : Value}
theorem get_map {expr : Bool} {Q : Value → Shared → Prop} (X : K.In s.heap) (I : ObjM s.heap x dx C mA) (hg : PySem.W.plainGet K C name = true) (hh : PySem.W.hasDictIn K C = true)
    (ha : PySem.W.findIn K (.ref C) name = some none) (hv : mA name = some v) (hv' : PySem.W.handedIn v = true) (h : Q v { s with toks := s.toks + 1 }) :
    wpAny (model prog w) A (getAttr (.ref x) name expr) Q E s := by
  obtain ⟨od, J, hl⟩ := I.look
  exact PySem.W.get_value X J (PySem.W.plainGet_of hg).1 (PySem.W.findObj_own hh ha rfl (by rw [hl, hv])) hv' h
theorem get_meth {pl : Sem Bool} {Q : Value × List Value → Shared → Prop} (X : K.In s.heap) (I : ObjM s.heap x dx C mA) (hg : PySem.W.plainGet K C name = true)
    (hf : PySem.W.findIn K (.ref C) name = some (some (.ref f))) (ht : PySem.W.isFn K (.ref f) = true) (hv : mA name = none) (h : Q (.ref f, [.ref x]) s) :
    wpAny (model prog w) A (getMethod (.ref x) name pl) Q E s := by
  obtain ⟨od, J, hl⟩ := I.look
  exact PySem.W.method_fn X J (PySem.W.plainGet_of hg).1 (PySem.W.plainGet_of hg).2 hf (beq_iff_eq.mp ht) (by show (PySem.W.lookIn name od).map (·.isSome) = some false; rw [hl, hv]; rfl) h
theorem set_map {ns : List Str} {Q : Unit → Shared → Prop} (X : K.In s.heap) (I : ObjM s.heap x dx C mA)
    (hs : PySem.W.findIn K (.ref C) "__setattr__" = some (some (.builtin "object.__setattr__"))) (hp : PySem.W.plainOver K C = true) (ht : PySem.W.takerIn K C name = some none) (hh : PySem.W.hasDictIn K C = true)
    (hw : PySem.Within mA ns) (hsz : ns.length ≤ sizeLine)
    (h : ∀ h', ObjM h' x dx C (fun y => if y = name then some v else mA y) → Heap.SameBut dx s.heap h' → Q () { s with heap := h', toks := s.toks + 2 }) :
    wpAny (model prog w) A (setAttr (.ref x) name v) Q E s := by
  obtain ⟨od, J, hl⟩ := I.look
  refine PySem.W.set_plain X J hs (PySem.W.osa_open (s := { s with toks := s.toks + 1 }) (r := none) X J hp ht fun b => ?_)
  obtain ⟨cd, hc, hd'⟩ := PySem.W.any_some hh
  have hx : s.heap.get? x = some ⟨.ref C, some dx, .plain, #[]⟩ := I.obj
  refine wpAny_bind (wpAny_pure (wpAny_bind (wpAny_bind (wpAny_loadPart hx (wpAny_bind (PySem.W.Looks.here (s := { s with toks := s.toks + 1 }) (PySem.W.looks_clsIn X hc) ?_))))))
  rw [hd']
  refine wpAny_pure (a := some dx) (wpAny_bind (wpAny_pure (wpAny_bind ?_)))
  refine wpAny_nsSet1 (s := { s with toks := s.toks + 1 }) I.ns fun h' hn2 hs2 => ?_
  obtain ⟨oD, esD, epD, hoD, hdD, hcD⟩ := hn2.count (PySem.Within.cons name v hw)
  refine wpAny_bind (wpAny_lookBehind hoD (by rw [hdD]; exact pastItsLine_dict (Nat.le_trans hcD (by rw [List.length_cons]; omega))) ?_)
  exact wpAny_pure (h _ ⟨(hs2.2 _ (Ne.symm I.ne)).trans I.obj, hn2, I.ne⟩ hs2)
/-- C(..): the dict at the heap's end, the instance behind it; then its __init__ -/
theorem make_map {R : Result → Shared → Prop} {vs : List Value} {kw : List (Str × Value)} (X : K.In s.heap) (hm : PySem.W.makesIn K C = true)
    (hi : PySem.W.findIn K (.ref C) "__init__" = some (some (.ref f))) (hf : PySem.W.typeIn K (.ref f) = some (.type "function"))
    (h : codeAny (model prog w) (A.under (.builtin "type.__call__" ⟨.ref C :: vs, kw⟩)) (.call (.ref f) ⟨.ref (s.heap.objs.size + 1) :: vs, kw⟩) (PySem.W.InitBack (s.heap.objs.size + 1) R)
      { s with heap := (s.heap.push PySem.W.emptyDict).push (PySem.W.instObj C s.heap.objs.size) }) :
    codeAny (model prog w) A (.call (.ref C) ⟨vs, kw⟩) R s := by
  obtain ⟨hh, g, d, t, os⟩ := s
  exact PySem.W.make_core (PySem.W.makes_of X hm) (PySem.W.looks_findIn X hi) (fun self => PySem.W.bind_fn X self hf) (.inl rfl) h
end
def putF (f : Str) (v : V) : List (Str × V) → List (Str × V)
  | [] => [(f, v)]
  | (g, x) :: r => if g = f then (g, v) :: r else (g, x) :: putF f v r
theorem lookup_putF (f g : Str) (v : V) : ∀ fs : List (Str × V), (putF f v fs).lookup g = if g = f then some v else fs.lookup g
  | [] => by
    show List.lookup g [(f, v)] = _
    by_cases h : g = f
    · have hb : (g == f) = true := beq_iff_eq.mpr h
      simp only [List.lookup, hb, if_pos h]
    · have hb : (g == f) = false := beq_eq_false_iff_ne.mpr h
      simp only [List.lookup, hb, if_neg h]
  | (k, x) :: r => by
    have ih := lookup_putF f g v r
    rw [show putF f v ((k, x) :: r) = (if k = f then (k, v) :: r else (k, x) :: putF f v r) from rfl]
    by_cases hk : k = f
    · rw [if_pos hk]
      by_cases h : g = k
      · have hb : (g == k) = true := beq_iff_eq.mpr h
        simp only [List.lookup, hb, if_pos (h.trans hk)]
      · have hb : (g == k) = false := beq_eq_false_iff_ne.mpr h
        simp only [List.lookup, hb, if_neg (fun e : g = f => h (e.trans hk.symm))]
    · rw [if_neg hk]
      by_cases h : g = k
      · have hb : (g == k) = true := beq_iff_eq.mpr h
        simp only [List.lookup, hb, if_neg (fun e : g = f => hk (h.symm.trans e))]
      · have hb : (g == k) = false := beq_eq_false_iff_ne.mpr h
        simp only [List.lookup, hb]
        exact ih
theorem keys_putF (f : Str) (v : V) : ∀ fs : List (Str × V), f ∈ (putF f v fs).map (·.1) ∧ ∀ g, g ∈ fs.map (·.1) → g ∈ (putF f v fs).map (·.1)
  | [] => ⟨by simp [putF], fun g h => by simp at h⟩
  | (k, x) :: r => by
    obtain ⟨i1, i2⟩ := keys_putF f v r
    rw [show putF f v ((k, x) :: r) = (if k = f then (k, v) :: r else (k, x) :: putF f v r) from rfl]
    by_cases hk : k = f
    · rw [if_pos hk]
      subst hk
      exact ⟨by simp, fun g h => by simpa using h⟩
    · rw [if_neg hk]
      refine ⟨?_, fun g h => ?_⟩
      · rw [List.map_cons]
        exact List.mem_cons_of_mem _ i1
      · rw [List.map_cons] at h ⊢
        rcases List.mem_cons.mp h with e | e
        · exact List.mem_cons.mpr (.inl e)
        · exact List.mem_cons_of_mem _ (i2 g e)
theorem length_putF (f : Str) (v : V) : ∀ fs : List (Str × V), (putF f v fs).length ≤ fs.length + 1
  | [] => by simp [putF]
  | (k, x) :: r => by
    have ih := length_putF f v r
    rw [show putF f v ((k, x) :: r) = (if k = f then (k, v) :: r else (k, x) :: putF f v r) from rfl]
    by_cases hk : k = f
    · rw [if_pos hk, List.length_cons, List.length_cons]; omega
    · rw [if_neg hk, List.length_cons, List.length_cons]; omega
theorem RelO.some_of {v : V} {o : Option Value} (r : RelO (some v) o) : ∃ u, o = some u ∧ RelV v u := by
  cases o with
  | none => exact (show False from r).elim
  | some u => exact ⟨u, rfl, r⟩
theorem RelO.none_of {o : Option Value} (r : RelO none o) : o = none := by
  cases o with
  | none => rfl
  | some u => exact (show False from r).elim
theorem handed_of {v : V} {u : Value} (r : RelV v u) : PySem.W.handedIn u = true := by
  cases v with
  | non => cases (show u = Value.none from r); rfl
  | bl b => cases (show u = Value.bool b from r); rfl
  | int i => obtain ⟨t, e⟩ := (show ∃ t, u = Value.int i t from r); cases e; rfl
  | str x => obtain ⟨t, e⟩ := (show ∃ t, u = Value.str x t from r); cases e; rfl
  | byt b => obtain ⟨t, e⟩ := (show ∃ t, u = Value.bytes b t from r); cases e; rfl
  | flt b => obtain ⟨t, e⟩ := (show ∃ t, u = Value.float b t from r); cases e; rfl
  | ref a => cases (show u = Value.ref a from r); rfl
  | ty n => cases (show u = Value.type n from r); rfl
section
variable {P : Program} {w : World} {H H' : Hp} {h h' : Heap} {a C dx : Addr} {fs fs' : List (Str × V)}
theorem ins_get (hok : HOk P w H h) (e : H a = some (.ins C dx fs)) : ∃ mA, ObjM h a dx C mA ∧ (∀ f, RelO (fs.lookup f) (mA f)) ∧ PySem.Within mA (fs.map (·.1)) ∧ fs.length ≤ 1000 ∧ H dx = some (.own a) := by
  obtain ⟨d, z, ne, ob, mA, n, r, q⟩ := (show ObjOk P w H h a (.ins C dx fs) from hok a _ e)
  exact ⟨mA, ⟨ob, n, ne⟩, r, q, z, d⟩
end
structure Cls (K : PySem.W.Frag) (C : Addr) : Prop where
  pg : PySem.W.plainGet K C Str.empty = true
  hd : PySem.W.hasDictIn K C = true
  po : PySem.W.plainOver K C = true
  sa : PySem.W.findIn K (.ref C) "__setattr__" = some (some (.builtin "object.__setattr__"))
theorem Cls.get {K : PySem.W.Frag} {C : Addr} (c : Cls K C) (f : Str) : PySem.W.plainGet K C f = true := c.pg
/-- no class of it has the name -/
def NoAttr (K : PySem.W.Frag) (C : Addr) (f : Str) : Prop := PySem.W.findIn K (.ref C) f = some none
theorem NoAttr.taker {K : PySem.W.Frag} {C : Addr} {f : Str} (n : NoAttr K C f) : PySem.W.takerIn K C f = some none := by
  unfold PySem.W.takerIn
  rw [show PySem.W.findIn K (.ref C) f = some none from n]
  rfl
/-- a method: a plain def of the class or of one above it -/
structure Meth (K : PySem.W.Frag) (C : Addr) (m : Str) (f : Addr) : Prop where
  at_ : PySem.W.findIn K (.ref C) m = some (some (.ref f))
  fn : PySem.W.isFn K (.ref f) = true
  kp : PySem.W.keepIn K (.ref f) = true
section
variable {X : Cx} {pins : List (Addr × Obj)} {σ : St} {H : Hp} {s : Shared} {a C dx : Addr} {fs : List (Str × V)} {f : Str} {v : V} {A : Around} {E : Value → Shared → Prop}
theorem getattr_ok {b : Bool} {Q : Value → Shared → Prop} (I : Inv X pins σ H s) (e : H a = some (.ins C dx fs)) (c : Cls X.K C) (n : NoAttr X.K C f) (l : fs.lookup f = some v)
    (h : ∀ u s', Inv X pins σ H s' → RelV v u → Q u s') : wpAny (model X.prog X.w) A (getAttr (.ref a) f b) Q E s := by
  obtain ⟨mA, O, r, _, _, _⟩ := ins_get I.hok e
  obtain ⟨u, hu, ru⟩ := RelO.some_of (v := v) (o := mA f) (by rw [← l]; exact r f)
  exact get_map I.kIn O (c.get f) c.hd n hu (handed_of ru) (h u _ (I.tok _) ru)
theorem getmeth_ok {m : Str} {g : Addr} {pl : Sem Bool} {Q : Value × List Value → Shared → Prop} (I : Inv X pins σ H s) (e : H a = some (.ins C dx fs)) (c : Cls X.K C) (k : Meth X.K C m g) (l : fs.lookup m = none)
    (h : Q (.ref g, [.ref a]) s) : wpAny (model X.prog X.w) A (getMethod (.ref a) m pl) Q E s := by
  obtain ⟨mA, O, r, _, _, _⟩ := ins_get I.hok e
  have hn : mA m = none := RelO.none_of (by rw [← l]; exact r m)
  exact get_meth I.kIn O (c.get m) k.at_ k.fn hn h
theorem setattr_ok {y : V} {u : Value} {Q : Unit → Shared → Prop} (I : Inv X pins σ H s) (e : H a = some (.ins C dx fs)) (c : Cls X.K C) (n : NoAttr X.K C f) (hl : fs.length < 1000) (ry : RelV y u)
    (h : ∀ s', Inv X pins σ (upd H a (.ins C dx (putF f y fs))) s' → Q () s') : wpAny (model X.prog X.w) A (setAttr (.ref a) f u) Q E s := by
  obtain ⟨mA, O, r, wi, _, ho⟩ := ins_get I.hok e
  have hz : (fs.map (·.1)).length ≤ sizeLine := by rw [List.length_map, sizeLine_eq]; omega
  refine set_map I.kIn O c.sa c.po n.taker c.hd wi hz fun h' O' sb => h _ ?_
  have hd : ∃ o, h'.get? dx = some o := let ⟨o, _, _, e', _⟩ := O'.ns; ⟨o, e'⟩
  refine I.write (x := a) (e := dx) (by rw [e]; exact True.intro) (.inr ho) (fun b q hb z => (sb.2 b hb).trans z) hd ?_
  refine ⟨by rw [upd_ne O.ne]; exact ho, ?_, O.ne, O'.obj, _, O'.ns, fun g => ?_, fun g hg => ?_⟩
  · have := length_putF f y fs; omega
  · show RelO ((putF f y fs).lookup g) (if g = f then some u else mA g)
    rw [lookup_putF]
    by_cases q : g = f
    · rw [if_pos q, if_pos q]; exact ry
    · rw [if_neg q, if_neg q]; exact r g
  · by_cases q : g = f
    · rw [q]; exact (keys_putF f y fs).1
    · refine (keys_putF f y fs).2 g (wi g fun z => hg ?_)
      show (if g = f then some u else mA g) = none
      rw [if_neg q]; exact z
/-- a new instance, tracked, without attributes -/
theorem Inv.made (I : Inv X pins σ H s) : Inv X pins σ (upd (upd H s.heap.objs.size (.own (s.heap.objs.size + 1))) (s.heap.objs.size + 1) (.ins C s.heap.objs.size []))
    { s with heap := (s.heap.push PySem.W.emptyDict).push (PySem.W.instObj C s.heap.objs.size) } := by
  have e1 : (s.heap.push PySem.W.emptyDict).get? s.heap.objs.size = some PySem.W.emptyDict := Heap.get?_push_size s.heap rfl
  have e2 : ((s.heap.push PySem.W.emptyDict).push (PySem.W.instObj C s.heap.objs.size)).get? (s.heap.objs.size + 1) = some (PySem.W.instObj C s.heap.objs.size) := by
    have := Heap.get?_push_size (s.heap.push PySem.W.emptyDict) (o := PySem.W.instObj C s.heap.objs.size) rfl
    rwa [Heap.size_push] at this
  have e3 : (s.heap.push PySem.W.emptyDict).Ns s.heap.objs.size (fun _ => none) := ⟨PySem.W.emptyDict, #[], _, e1, rfl, (fun e he => absurd he (by simp)), fun _ => rfl⟩
  have I1 := I.laid (a := s.heap.objs.size) (o := .own (s.heap.objs.size + 1)) (h' := s.heap.push PySem.W.emptyDict) (t' := s.toks) (fun b u q => Heap.get?_push_of_some _ q) (Nat.le_refl _) ⟨_, e1⟩
  refine I1.laid (a := s.heap.objs.size + 1) (o := .ins C s.heap.objs.size []) (t' := s.toks) (fun b u q => Heap.get?_push_of_some _ q) (Nat.le_of_eq (Heap.size_push _ _)) ?_
  have ne : s.heap.objs.size ≠ s.heap.objs.size + 1 := Nat.ne_of_lt (Nat.lt_succ_self _)
  refine ⟨by rw [upd_ne ne, upd_same], Nat.zero_le _, ne, e2, fun _ => none, (Heap.Ns1.of_empty e3).at fun o q => Heap.get?_push_of_some _ q, fun _ => True.intro, fun y hy => absurd rfl hy⟩
/-- e.f where nothing but the object is asked: through attributeBase (super) and the last hold -/
theorem attr_of {prog : Program} {w : World} {env : Env} {e : Expr} {f : Str} {pos : Pos} {s : Shared} {Q : Value → Shared → Prop} (hb : attributeBase e f env (eval e env) = eval e env)
    (h : wpAny (model prog w) A (eval e env) (fun o s₁ => wpAny (model prog w) A (getAttr o f true) Q E s₁) E s) : wpAny (model prog w) A (eval (.Attribute e f pos) env) Q E s :=
  Attribute_any_ h (by rw [arm_eval_Attribute, hb])
end
/-- e.f, an attribute of the instance -/
def tFld (K : PySem.W.Frag) (ta : TE) (f : Str) : TE := fun σ H Q => ta σ H fun x H1 => ∃ a C dx fs v, x = .ref a ∧ H1 a = some (.ins C dx fs) ∧ Cls K C ∧ NoAttr K C f ∧ fs.lookup f = some v ∧ Q v H1
/-- e.f = value -/
def sFld (K : PySem.W.Frag) (ta tv : TE) (f : Str) : TS := fun D σ H => tv σ H fun y H1 => ta σ H1 fun x H2 => ∃ a C dx fs, x = .ref a ∧ H2 a = some (.ins C dx fs) ∧ Cls K C ∧ NoAttr K C f ∧ fs.length < 1000 ∧
  D.nx σ (upd H2 a (.ins C dx (putF f y fs)))
section
variable {X : Cx} {o e value : Expr} {f : Str} {pos pos' tpos : Pos} {ta tv : TE}
theorem pe_fld (he : PE X e ta) (hb : attributeBase e f X.env (eval e X.env) = eval e X.env) : PE X (.Attribute e f pos) (tFld X.K ta f) := by
  intro pins s σ H Q I h
  refine attr_of hb (thn (he pins s σ H _ I h) fun u s1 ⟨x, H1, I1, rx, a, C, dx, fs, v, ex, ea, c, n, l, q⟩ => ?_)
  subst ex
  obtain rfl : u = Value.ref a := rx
  exact getattr_ok I1 ea c n l fun u' s2 I2 ru => ⟨v, H1, I2, ru, q⟩
theorem ps_fld (ha : PE X o ta) (hv : PE X value tv) (hs : swapsWith value (some (.Attribute o f pos')) pos.line X.env = pure false) : PS X (.Assign [.Attribute o f pos'] value pos) (sFld X.K ta tv f) := by
  intro pins s σ H D I h
  refine plainObj_wpAny_Assign_Attribute (thn (hv pins s σ H _ I h) fun u s1 ⟨y, H1, I1, ry, q⟩ => thn (ha pins s1 σ H1 _ I1 q) fun ov s2 ⟨x, H2, I2, rx, a, C, dx, fs, ex, ea, c, n, l, q2⟩ => ?_) hs
  subst ex
  obtain rfl : ov = Value.ref a := rx
  exact setattr_ok I2 ea c n l ry fun s3 I3 => ⟨σ, _, I3, q2⟩
end
section
variable {X : Cx} {pins : List (Addr × Obj)} {σ : St} {H : Hp} {s : Shared} {A : Around} {E : Value → Shared → Prop} {Q : Value → Shared → Prop} {c : Value} {b : Bool}
end
end L2
namespace L2
open PySem PySem.Spec PyProof.Rows
structure Room (k : Nat) (A : Around) : Prop where
  hd : A.handled = none
  dp : A.depth + 3 * k + 5 < recursionLimit
  un : A.units + 16 * k + 200 < cLine
theorem Room.mono {j k : Nat} {A : Around} (r : Room k A) (h : j ≤ k) : Room j A := ⟨r.hd, by have := r.dp; omega, by have := r.un; omega⟩
theorem Room.deeper {k : Nat} {A : Around} (r : Room (k + 1) A) (env : Env) : Room k (A.deeper env) :=
  ⟨r.hd, by have := r.dp; show A.depth + 1 + 3 * k + 5 < _; omega, by have := r.un; show A.units + 3 + 16 * k + 200 < _; omega⟩
theorem make_depth {A : Around} {C : Addr} {us : List Value} {kw : List (Str × Value)} : (A.under (.builtin "type.__call__" ⟨.ref C :: us, kw⟩)).depth = A.depth + 1 := by
  first | rfl | simp [Around.under, Code.weight, Code.isCreation, Code.isGuard, Code.isCaller, Code.frames, Code.isFrame, guardIds]
theorem make_units {A : Around} {C : Addr} {us : List Value} {kw : List (Str × Value)} : (A.under (.builtin "type.__call__" ⟨.ref C :: us, kw⟩)).units = A.units + 1 := by
  first | rfl | simp [Around.under, Code.cUnits, Code.frames, Code.isFrame]
theorem Room.make {k : Nat} {A : Around} (r : Room (k + 1) A) (C : Addr) (us : List Value) (kw : List (Str × Value)) : Room k (A.under (.builtin "type.__call__" ⟨.ref C :: us, kw⟩)) :=
  ⟨r.hd, by have := r.dp; rw [make_depth]; omega, by have := r.un; rw [make_units]; omega⟩
theorem Room.depth {k : Nat} {A : Around} (r : Room k A) : A.depth < recursionLimit := by have := r.dp; omega
def tNil : TA := fun _ H Q => Q [] H
def tCons (ta : TE) (tr : TA) : TA := fun σ H Q => ta σ H fun x H1 => tr σ H1 fun xs H2 => Q (x :: xs) H2
section
variable {X : Cx} {e : Expr} {es : List Expr} {te : TE} {t : TA} {pos : Pos}
theorem pa_nil : PA X [] tNil := fun _ _ _ _ H Q I h => Calls.spliced_nil ⟨[], H, I, .nil, h⟩
theorem pa_cons (ha : PE X e te) (hr : PA X es t) (hs : starEach (e :: es) X.env = (false, eval e X.env) :: starEach es X.env := by rfl) : PA X (e :: es) (tCons te t) := by
  intro pos pins s σ H Q I h
  rw [hs]
  show wpAny _ _ (spliced ((false, eval e X.env) :: backTo pos (starEach es X.env))) _ _ s
  refine Calls.spliced_cons (thn (ha pins s σ H _ I h) fun u s1 ⟨x, H1, I1, r1, q1⟩ => ?_)
  exact thn (hr pos pins s1 σ H1 _ I1 q1) fun us s2 ⟨xs, H2, I2, r2, q2⟩ => ⟨x :: xs, H2, I2, .cons r1 r2, q2⟩
/-- a tuple, a list of written items -/
def tTup (t : TA) : TE := fun σ H Q => t σ H fun xs H1 => xs.length ≤ sizeLine ∧ ∀ p, H1 p = none → Q (.ref p) (upd H1 p (.tup xs))
def tLst (t : TA) : TE := fun σ H Q => t σ H fun xs H1 => xs.length ≤ sizeLine ∧ ∀ p, H1 p = none → Q (.ref p) (upd H1 p (.lst xs))
theorem pe_tup {x1} (h : PA X es t) : PE X (.Tuple es x1 pos) (tTup t) := by
  intro pins s σ H Q I hq
  refine wpAny_Tuple_spliced (thn (h pos pins s σ H _ I hq) fun us s1 ⟨xs, H1, I1, r, z, q⟩ => ⟨by rw [← r.length]; exact z, ?_⟩)
  have hf : H1 s1.heap.objs.size = none := I1.hok.fresh (Nat.le_refl _)
  refine ⟨.ref s1.heap.objs.size, upd H1 s1.heap.objs.size (.tup xs), I1.laid (t' := s1.toks) (fun b u e => Heap.get?_push_of_some _ e) (Nat.le_refl _) ?_, rfl, q _ hf⟩
  exact ⟨z, us, r, ⟨_, Heap.get?_push_size _ rfl, rfl, _, rfl⟩⟩
theorem pe_lst (h : PA X es t) : PE X (.List es pos) (tLst t) := by
  intro pins s σ H Q I hq
  refine wpAny_List_spliced (thn (h pos pins s σ H _ I hq) fun us s1 ⟨xs, H1, I1, r, z, q⟩ => ⟨by rw [← r.length]; exact z, ?_⟩)
  have hf : H1 s1.heap.objs.size = none := I1.hok.fresh (Nat.le_refl _)
  refine ⟨.ref s1.heap.objs.size, upd H1 s1.heap.objs.size (.lst xs), I1.laid (t' := s1.toks) (fun b u e => Heap.get?_push_of_some _ e) (Nat.le_refl _) ?_, rfl, q _ hf⟩
  exact ⟨z, us, 0, r, Heap.get?_push_size _ rfl⟩
end
/-- a def's promise: the bound arguments in the parameters' order, the heap, the wanted end, the wanted exception -/
abbrev Sp := List V → Hp → VK → XK → Prop
/-- how an exception lies behind a call (file 08 gives it): the callers' frames, abstract heap and state ahead of the call, the wish, the exception, the state -/
abbrev CXT := List Env → Hp → Shared → XK → Value → Shared → Prop
/-- the state at a call -/
structure Env0 (P : Program) (w : World) (K : PySem.W.Frag) (mg : Str → Option Value) (base : Heap) (A : Around) (outer : List Env) (s : Shared) (H : Hp) : Prop where
  frames : A.frames = some outer
  mod : Mod K mg base
  bs : ∀ b o, base.get? b = some o → s.heap.get? b = some o ∧ H b = none
  bsz : base.objs.size ≤ s.heap.objs.size
  funs : s.heap.FunFrames base outer
  frf : ∀ b ∈ frs outer, H b = none
  hok : HOk P w H s.heap
  bare : AllBare s.gens
/-- a call's end -/
def CE (outer : List Env) (P : Program) (w : World) (H : Hp) (s : Shared) (Q : VK) (u : Value) (s' : Shared) : Prop :=
  ∃ v H', s'.os = s.os ∧ AllBare s'.gens ∧ Un (frs outer) [] H H' s.heap s'.heap ∧ HOk P w H' s'.heap ∧ RelV v u ∧ Q v H'
def CR (CX : CXT) (outer : List Env) (P : Program) (w : World) (H : Hp) (s : Shared) (Q : VK) (E : XK) (r : Result) (s' : Shared) : Prop :=
  match r with
  | .ok (.ret u) => CE outer P w H s Q u s'
  | .ok _ => False
  | .error e => CX outer H s E e s'
structure FnOk (P : Program) (w : World) (K : PySem.W.Frag) (mg : Str → Option Value) (base : Heap) (CX : CXT) (k : Nat) (f : Addr) (fd : FuncData) (ps : List Str) (sp : Sp) : Prop where
  len : ∀ vs H Q E, sp vs H Q E → vs.length = ps.length
  run : ∀ (A : Around) (outer : List Env) (s : Shared) (H : Hp) (args : Args) (us : List Value) (vs : List V) (Q : VK) (E : XK), Room k A → Env0 P w K mg base A outer s H → BindsTo s fd args (ps.zip us) → Vals vs us → sp vs H Q E →
    codeAny (model P w) A (.call (.ref f) args) (CR CX outer P w H s Q E) s
theorem FnOk.mono {P : Program} {w : World} {K : PySem.W.Frag} {mg : Str → Option Value} {base : Heap} {CX : CXT} {j k : Nat} {f : Addr} {fd : FuncData} {ps : List Str} {sp : Sp} (F : FnOk P w K mg base CX j f fd ps sp) (h : j ≤ k) :
    FnOk P w K mg base CX k f fd ps sp := ⟨F.len, fun A outer s H args us vs Q E hr => F.run A outer s H args us vs Q E (hr.mono h)⟩
theorem Env0.make {P : Program} {w : World} {K : PySem.W.Frag} {mg : Str → Option Value} {base : Heap} {A : Around} {outer : List Env} {s : Shared} {H : Hp} (e : Env0 P w K mg base A outer s H) (C : Addr) (us : List Value) (kw : List (Str × Value)) :
    Env0 P w K mg base (A.under (.builtin "type.__call__" ⟨.ref C :: us, kw⟩)) outer s H := ⟨by first | exact e.frames | (simpa [Around.under, Code.envs, Code.isFrame, pushEnvs] using e.frames), e.mod, e.bs, e.bsz, e.funs, e.frf, e.hok, e.bare⟩
section
variable {X : Cx} {pins : List (Addr × Obj)} {σ : St} {H : Hp} {s s' : Shared}
/-- from a body: what a callee wants -/
theorem Inv.env0 (I : Inv X pins σ H s) : Env0 X.prog X.w X.K X.mg X.base X.A X.stack s H :=
  ⟨I.ok.frames, I.ok.mod, I.bs, Nat.le_trans I.ok.bsz I.sz, I.stack, I.stkFree, I.hok, I.bare⟩
/-- behind a call -/
theorem Inv.after {Q : VK} {u : Value} (I : Inv X pins σ H s) (h : CE X.stack X.prog X.w H s Q u s') : EP X pins σ Q u s' := by
  obtain ⟨v, H', os, bare, un, hok, r, q⟩ := h
  obtain ⟨hh, g, d, t, os'⟩ := s'
  obtain rfl : os' = s.os := os
  exact ⟨v, H', I.call (h' := hh) (g' := g) (d' := d) (t' := t) (ch := []) un hok bare (fun b z => absurd z (by simp)), r, q⟩
end
/-- f(..): the written arguments, then the defaults dvs; E: what is wanted of an exception -/
def tCall (sp : Sp) (dvs : List V) (E : XK) (t : TA) : TE := fun σ H Q => t σ H fun vs H1 => sp (vs ++ dvs) H1 Q E
/-- o.m(..) of an instance of the class at C -/
def tMeth (C : Addr) (m : Str) (sp : Sp) (dvs : List V) (E : XK) (ta : TE) (t : TA) : TE := fun σ H Q => ta σ H fun x H1 => ∃ a dx fs, x = .ref a ∧ H1 a = some (.ins C dx fs) ∧ fs.lookup m = none ∧
  t σ H1 fun vs H2 => sp (x :: (vs ++ dvs)) H2 Q E
/-- C(..): a new instance and its dict, then __init__ -/
def tMake (C : Addr) (sp : Sp) (dvs : List V) (E : XK) (t : TA) : TE := fun σ H Q => t σ H fun vs H1 => ∀ x dx, H1 x = none → H1 dx = none → dx ≠ x →
  sp (.ref x :: (vs ++ dvs)) (upd (upd H1 dx (.own x)) x (.ins C dx [])) (fun v H2 => v = .non ∧ Q (.ref x) H2) E
/-- how the parameters are bound: us the positional arguments, kw the keywords' values by name, ds the defaults that fill up -/
def Binds (K : PySem.W.Frag) (fd : FuncData) (ps : List Str) (ds : List Value) : Prop :=
  ∀ (s : Shared) (us : List Value), K.In s.heap → (us ++ ds).length = ps.length → BindsTo s fd ⟨us, []⟩ (ps.zip (us ++ ds))
/-- every parameter is given -/
theorem Binds.all {K : PySem.W.Frag} {fd : FuncData} {ps : List Str} (h : ∀ us : List Value, us.length = ps.length → bindArgs fd ⟨us, []⟩ = pure (ps.zip us)) : Binds K fd ps [] := fun s us _ hl => by
  rw [List.append_nil] at hl ⊢
  exact .of_eq (h us hl)
/-- an exception of a callee reaches what this body wants of exceptions -/
def Passes (CX : CXT) (X : Cx) (E : XK) : Prop := ∀ (pins : List (Addr × Obj)) (σ : St) (H : Hp) (s : Shared) (e : Value) (s' : Shared), Inv X pins σ H s → CX X.stack H s E e s' → X.xe e s'
section
variable {X : Cx} {CX : CXT} {k : Nat} {f C : Addr} {fd : FuncData} {ps : List Str} {sp : Sp} {dvs : List V} {ds : List Value} {E : XK} {x m : Str} {p pos apos : Pos} {e o : Expr} {es : List Expr} {ta : TE} {t : TA}
/-- the callee runs -/
theorem run_fn {pins : List (Addr × Obj)} {σ : St} {H : Hp} {s : Shared} {Q : VK} {us : List Value} {vs : List V} (F : FnOk X.prog X.w X.K X.mg X.base CX k f fd ps sp) (hr : Room k X.A) (hb : Binds X.K fd ps ds) (hd : Vals dvs ds) (hx : Passes CX X E)
    (I : Inv X pins σ H s) (r : Vals vs us) (h : sp (vs ++ dvs) H Q E) : wpAny (model X.prog X.w) X.A (call (.ref f) us) (EP X pins σ Q) X.xe s := by
  have r2 : Vals (vs ++ dvs) (us ++ ds) := r.append hd
  have hl : (us ++ ds).length = ps.length := by rw [← r2.length]; exact F.len _ _ _ _ h
  refine wpAny_call (codeAny_mono (F.run X.A X.stack s H ⟨us, []⟩ (us ++ ds) (vs ++ dvs) Q E hr I.env0 (hb s us I.kIn hl) r2 h) fun r s' hq => ?_)
  cases r with
  | error e => exact hx pins σ H s e s' I hq
  | ok fl =>
    cases fl with
    | ret u => exact I.after hq
    | next => exact False.elim hq
    | brk => exact False.elim hq
    | cont => exact False.elim hq
theorem pe_call (F : FnOk X.prog X.w X.K X.mg X.base CX k f fd ps sp) (hr : Room k X.A) (hg : Gl X x) (hm : X.mg x = some (.ref f)) (hk : PySem.W.keepIn X.K (.ref f) = true) (hb : Binds X.K fd ps ds) (hd : Vals dvs ds) (hx : Passes CX X E)
    (ha : PA X (e :: es) t) (hdb : (x == ("__debug__" : Str)) = false := by decide) (he : starEach (e :: es) X.env = (false, eval e X.env) :: starEach es X.env := by rfl) (hpl : (backTo pos (starEach es X.env)).any (·.1) = false := by rfl) :
    PE X (.Call (.Name x p) (e :: es) [] pos) (tCall sp dvs E t) := by
  intro pins s σ H Q I h
  refine wpAny_Call_Name_kw (ld_glob I hg hm ?_ hdb)
  refine PySem.W.callWith_K (h₀ := X.base) I.ok.mod.kin hk (thn (ha pos pins s σ H _ I h) fun us s1 ⟨vs, H1, I1, r, q⟩ => ⟨I1.kIn, ?_⟩) he hpl
  exact run_fn F hr hb hd hx I1 r q
/-- o.m(e, ..) -/
theorem pe_meth {pl : Sem Bool} (he : PE X o ta) (c : Cls X.K C) (hm : Meth X.K C m f) (F : FnOk X.prog X.w X.K X.mg X.base CX k f fd ps sp) (hr : Room k X.A) (hb : Binds X.K fd ps ds) (hd : Vals dvs ds) (hx : Passes CX X E) (ha : PA X (e :: es) t)
    (hst : starEach (e :: es) X.env = (false, eval e X.env) :: starEach es X.env := by rfl) (hpl : (backTo pos (starEach es X.env)).any (·.1) = false := by rfl)
    (ht : eval (.Call (.Attribute o m apos) (e :: es) [] pos) X.env = (do
      let ov ← eval o X.env
      standAt apos.atName
      let (f, first) ← holding [ov] (getMethod ov m pl)
      callWith pos f first (backTo pos (starEach (e :: es) X.env)) (backToKw pos (keywordEach [] X.env))) := by rfl) :
    PE X (.Call (.Attribute o m apos) (e :: es) [] pos) (tMeth C m sp dvs E ta t) := by
  intro pins s σ H Q I h
  refine PySem.W.methodCall_KW (pl := pl) (thn (he pins s σ H _ I h) fun u s1 ⟨x, H1, I1, rx, a, dx, fs, ex, ea, l, q⟩ => ?_) ht
  subst ex
  obtain rfl : u = Value.ref a := rx
  refine getmeth_ok I1 ea c hm l ?_
  refine PySem.W.callWith_K (first := [.ref a]) (h₀ := X.base) I.ok.mod.kin hm.kp (thn (ha pos pins s1 σ H1 _ I1 q) fun us s2 ⟨vs, H2, I2, r, q2⟩ => ⟨I2.kIn, ?_⟩) hst hpl
  exact run_fn (us := .ref a :: us) (vs := .ref a :: vs) F hr hb hd hx I2 (.cons rfl r) q2
/-- o.m() -/
theorem pe_meth0 {pl : Sem Bool} (he : PE X o ta) (c : Cls X.K C) (hm : Meth X.K C m f) (F : FnOk X.prog X.w X.K X.mg X.base CX k f fd ps sp) (hr : Room k X.A) (hb : Binds X.K fd ps ds) (hd : Vals dvs ds) (hx : Passes CX X E)
    (ht : eval (.Call (.Attribute o m apos) [] [] pos) X.env = (do
      let ov ← eval o X.env
      standAt apos.atName
      let (f, first) ← holding [ov] (getMethod ov m pl)
      callWith pos f first (backTo pos (starEach [] X.env)) (backToKw pos (keywordEach [] X.env))) := by rfl) :
    PE X (.Call (.Attribute o m apos) [] [] pos) (tMeth C m sp dvs E ta tNil) := by
  intro pins s σ H Q I h
  refine PySem.W.methodCall_KW (pl := pl) (thn (he pins s σ H _ I h) fun u s1 ⟨x, H1, I1, rx, a, dx, fs, ex, ea, l, q⟩ => ?_) ht
  subst ex
  obtain rfl : u = Value.ref a := rx
  refine getmeth_ok I1 ea c hm l ?_
  exact PySem.W.callWith_K0 (first := [.ref a]) I1.kIn hm.kp (run_fn (us := [.ref a]) (vs := [.ref a]) F hr hb hd hx I1 (.cons rfl .nil) q)
/-- what a class must have to be made -/
structure Mk (K : PySem.W.Frag) (C f : Addr) : Prop where
  makes : PySem.W.makesIn K C = true
  init : PySem.W.findIn K (.ref C) "__init__" = some (some (.ref f))
  fn : PySem.W.isFn K (.ref f) = true
  kp : PySem.W.keepIn K (.ref C) = true
theorem run_make {pins : List (Addr × Obj)} {σ : St} {H : Hp} {s : Shared} {Q : VK} {us : List Value} {vs : List V} (M : Mk X.K C f) (F : FnOk X.prog X.w X.K X.mg X.base CX k f fd ps sp) (hr : Room (k + 1) X.A) (hb : Binds X.K fd ps ds) (hd : Vals dvs ds)
    (hx : Passes CX X E) (I : Inv X pins σ H s) (r : Vals vs us)
    (h : ∀ x dx, H x = none → H dx = none → dx ≠ x → sp (.ref x :: (vs ++ dvs)) (upd (upd H dx (.own x)) x (.ins C dx [])) (fun v H2 => v = .non ∧ Q (.ref x) H2) E) :
    wpAny (model X.prog X.w) X.A (call (.ref C) us) (EP X pins σ Q) X.xe s := by
  have hq := h (s.heap.objs.size + 1) s.heap.objs.size (I.hok.fresh (Nat.le_succ _)) (I.hok.fresh (Nat.le_refl _)) (Nat.ne_of_lt (Nat.lt_succ_self _))
  have I2 := Inv.made (C := C) I
  have r2 : Vals (V.ref (s.heap.objs.size + 1) :: (vs ++ dvs)) (Value.ref (s.heap.objs.size + 1) :: (us ++ ds)) := .cons rfl (r.append hd)
  have hl : (Value.ref (s.heap.objs.size + 1) :: us ++ ds).length = ps.length := by
    have e := r2.length
    rw [F.len _ _ _ _ hq] at e
    exact e.symm
  refine wpAny_call (make_map (f := f) I.kIn M.makes M.init (beq_iff_eq.mp M.fn) (codeAny_mono (F.run _ X.stack _ _ ⟨Value.ref (s.heap.objs.size + 1) :: us, []⟩ (Value.ref (s.heap.objs.size + 1) :: (us ++ ds)) _ _ E (hr.make C us [])
    (I2.env0.make C us []) (hb _ (Value.ref (s.heap.objs.size + 1) :: us) I2.kIn hl) r2 hq) fun r s' hq' => ?_))
  cases r with
  | error e => exact hx pins σ _ _ e s' I2 hq'
  | ok fl =>
    cases fl with
    | ret u =>
      obtain ⟨v, H', I3, rv, ev, q3⟩ := I2.after hq'
      subst ev
      exact ⟨rv, ⟨V.ref (s.heap.objs.size + 1), H', I3, rfl, q3⟩⟩
    | next => exact False.elim hq'
    | brk => exact False.elim hq'
    | cont => exact False.elim hq'
theorem pe_make (M : Mk X.K C f) (F : FnOk X.prog X.w X.K X.mg X.base CX k f fd ps sp) (hr : Room (k + 1) X.A) (hg : Gl X x) (hm : X.mg x = some (.ref C)) (hb : Binds X.K fd ps ds) (hd : Vals dvs ds) (hx : Passes CX X E)
    (ha : PA X (e :: es) t) (hdb : (x == ("__debug__" : Str)) = false := by decide) (he : starEach (e :: es) X.env = (false, eval e X.env) :: starEach es X.env := by rfl) (hpl : (backTo pos (starEach es X.env)).any (·.1) = false := by rfl) :
    PE X (.Call (.Name x p) (e :: es) [] pos) (tMake C sp dvs E t) := by
  intro pins s σ H Q I h
  refine wpAny_Call_Name_kw (ld_glob I hg hm ?_ hdb)
  refine PySem.W.callWith_K (h₀ := X.base) I.ok.mod.kin M.kp (thn (ha pos pins s σ H _ I h) fun us s1 ⟨vs, H1, I1, r, q⟩ => ⟨I1.kIn, ?_⟩) he hpl
  exact run_make M F hr hb hd hx I1 r q
theorem pe_make0 (M : Mk X.K C f) (F : FnOk X.prog X.w X.K X.mg X.base CX k f fd ps sp) (hr : Room (k + 1) X.A) (hg : Gl X x) (hm : X.mg x = some (.ref C)) (hb : Binds X.K fd ps ds) (hd : Vals dvs ds) (hx : Passes CX X E)
    (hdb : (x == ("__debug__" : Str)) = false := by decide) : PE X (.Call (.Name x p) [] [] pos) (tMake C sp dvs E tNil) := by
  intro pins s σ H Q I h
  refine wpAny_Call_Name_kw (ld_glob I hg hm ?_ hdb)
  exact PySem.W.callWith_K0 I.kIn M.kp (run_make (us := []) M F hr hb hd hx I .nil h)
end
section
variable {X : Cx} {CX : CXT} {k : Nat} {f C : Addr} {fd : FuncData} {ps ks : List Str} {sp : Sp} {E : XK} {x m : Str} {p pos apos kpos : Pos} {e o : Expr} {es : List Expr} {kws : List Keyword} {te ta : TE} {t tk : TA} {nm : Option Str}
variable {g : List Value → List Value → List Value} {gV : List V → List V → List V}
end
/-- names: the parameters first -/
structure FnScope (N P : List Str) (sc : Scope) : Prop where
  kind : sc.kind = .function
  co : sc.isCoroutine = false
  gen : sc.isGenerator = false
  nd : N.Nodup
  pre : N.take P.length = P
  par : ∀ x ∈ P, sc.names.lookup x = some .local ∨ sc.names.lookup x = some .cell
  nofree : ∀ y ∈ sc.names, y.2 ≠ .free
theorem bindL_out {kindOf : Str → Option NameKind} {x : Str} : ∀ {binds : List (Str × Value)} {m : Str → Option Value}, (∀ v, (x, v) ∉ binds) → bindL kindOf binds m x = m x
  | [], _, _ => rfl
  | (n, v) :: r, m, h => by
    unfold bindL
    rw [bindL_out fun w hw => h w (List.mem_cons_of_mem _ hw)]
    split
    · have : x ≠ n := by rintro rfl; exact h v List.mem_cons_self
      simp [this]
    · rfl
theorem bindC_out {kindOf : Str → Option NameKind} {x : Str} : ∀ {binds : List (Str × Value)} {m : Str → Option Value}, (∀ v, (x, v) ∉ binds) → bindC kindOf binds m x = m x
  | [], _, _ => rfl
  | (n, v) :: r, m, h => by
    unfold bindC
    rw [bindC_out fun w hw => h w (List.mem_cons_of_mem _ hw)]
    split
    · rfl
    · have : x ≠ n := by rintro rfl; exact h v List.mem_cons_self
      simp [this]
theorem bindL_get {kindOf : Str → Option NameKind} {x : Str} {v : Value} : ∀ {P : List Str} {vs : List Value} {i : Nat} {m : Str → Option Value}, P.Nodup → P[i]? = some x → vs[i]? = some v → kindOf x = some .local →
    bindL kindOf (P.zip vs) m x = some v
  | [], _, _, _, _, h, _, _ => by simp at h
  | _ :: _, [], _, _, _, _, h, _ => by simp at h
  | p :: P, w :: vs, 0, m, nd, h1, h2, hk => by
    simp at h1 h2; subst h1; subst h2
    show bindL kindOf ((p, w) :: P.zip vs) m p = _
    unfold bindL
    rw [bindL_out fun v hv => (List.nodup_cons.mp nd).1 (List.of_mem_zip hv).1, if_pos hk]
    simp
  | p :: P, w :: vs, i + 1, m, nd, h1, h2, hk => by
    show bindL kindOf ((p, w) :: P.zip vs) m x = _
    unfold bindL
    exact bindL_get (i := i) (List.nodup_cons.mp nd).2 (by simpa using h1) (by simpa using h2) hk
theorem bindC_get {kindOf : Str → Option NameKind} {x : Str} {v : Value} : ∀ {P : List Str} {vs : List Value} {i : Nat} {m : Str → Option Value}, P.Nodup → P[i]? = some x → vs[i]? = some v → kindOf x ≠ some .local →
    bindC kindOf (P.zip vs) m x = some v
  | [], _, _, _, _, h, _, _ => by simp at h
  | _ :: _, [], _, _, _, _, h, _ => by simp at h
  | p :: P, w :: vs, 0, m, nd, h1, h2, hk => by
    simp at h1 h2; subst h1; subst h2
    show bindC kindOf ((p, w) :: P.zip vs) m p = _
    unfold bindC
    rw [bindC_out fun v hv => (List.nodup_cons.mp nd).1 (List.of_mem_zip hv).1, if_neg hk]
    simp
  | p :: P, w :: vs, i + 1, m, nd, h1, h2, hk => by
    show bindC kindOf ((p, w) :: P.zip vs) m x = _
    unfold bindC
    exact bindC_get (i := i) (List.nodup_cons.mp nd).2 (by simpa using h1) (by simpa using h2) hk
/-- the names' values at the entry -/
def start (N : List Str) (vs : List V) : St := vs.map some ++ List.replicate (N.length - vs.length) none
/-- the context of a def's body, at its entry; an exception leaves the frame, then lies as CX says -/
def cxOf (CX : CXT) (P : Program) (w : World) (K : PySem.W.Frag) (mg : Str → Option Value) (base : Heap) (N : List Str) (qual : Str) (scope : Scope) (f : Addr) (cd : Value) (A : Around) (outer : List Env) (s : Shared) (H : Hp) (E : XK) : Cx where
  prog := P
  w := w
  K := K
  mg := mg
  base := base
  A := A.deeper (envOfC qual scope s.heap.objs.size f cd)
  N := N
  s_0 := s
  H_0 := H
  env := envOfC qual scope s.heap.objs.size f cd
  outer := outer
  stack := envOfC qual scope s.heap.objs.size f cd :: outer
  ex := []
  calm := true
  fn := fun _ => true
  pn := []
  xe := fun e s' => wpAny (model P w) (A.deeper (envOfC qual scope s.heap.objs.size f cd)) (leaving (envOfC qual scope s.heap.objs.size f cd) e) (fun _ s'' => CX outer H s E e s'') (fun e' s'' => CX outer H s E e' s'') s'
theorem cell_has {sc : Scope} {n : Nat} {x : Str} (h : sc.names.lookup x = some .cell) : ∃ c, (cellsFrom n sc.names []).lookup x = some c := by
  have q := PySem.W.cellsFrom_some sc.names n [] (.inl h)
  exact Option.isSome_iff_exists.mp q
theorem inv_start {CX : CXT} {P : Program} {w : World} {K : PySem.W.Frag} {mg : Str → Option Value} {base : Heap} {N ps : List Str} {qual : Str} {scope : Scope} {f : Addr} {cd : Value} {A : Around} {outer : List Env} {s s1 : Shared} {H : Hp} {E : XK} {us : List Value} {vs : List V}
    (S : FnScope N ps scope) (hd : A.handled = none) (e0 : Env0 P w K mg base A outer s H) (hl : vs.length = ps.length) (r : Vals vs us)
    (x : InCallC s s.heap.objs.size (bindL (envOfC qual scope s.heap.objs.size f cd).kindOf (ps.zip us) fun _ => none) (cellsFrom (s.heap.objs.size + 1) scope.names []) (bindC (envOfC qual scope s.heap.objs.size f cd).kindOf (ps.zip us) fun _ => none) s1) :
    Inv (cxOf CX P w K mg base N qual scope f cd A outer s H E) [] (start N vs) H s1 := by
  have hpl : ps.length ≤ N.length := by have := congrArg List.length S.pre; rw [List.length_take] at this; omega
  obtain ⟨h1, tk, rfl, hk⟩ := x.done
  have noA : ∀ b : Addr, b ∉ (cxOf CX P w K mg base N qual scope f cd A outer s H E).ex := fun b z => absurd (show b ∈ ([] : List Addr) from z) (by simp)
  refine ⟨⟨e0.mod, S.kind, rfl, rfl, Nat.le_refl _, fun y z c h1 h2 => ?_, fun y hy => ?_, fun y c _ h => ?_, fun _ => hd, Around.frames_deeper e0.frames, .inr ⟨rfl, rfl⟩, fun b z => absurd z (noA b), e0.bs, e0.bsz, fun b _ _ => noA b, fun b z => absurd z (noA b), e0.funs, e0.frf⟩,
    rfl, e0.bare, Un.kept hk, ⟨_, x.toInCall.ns, fun i y v h1 h2 h3 => ?_⟩, fun y c h => ⟨_, x.cell y c h⟩, e0.hok.fresh (Nat.le_refl _), fun y c h => ?_, fun p hp => absurd (show p ∈ ([] : List (Addr × Obj)) from hp) (by simp), e0.hok.kept hk, ?_⟩
  · exact name_of_addr x.apart (PySem.mem_of_lookup h1) (PySem.mem_of_lookup h2)
  · have hy : scope.names.lookup y = some .cell ∨ scope.names.lookup y = some .free := hy
    rcases hy with hy | hy
    · exact cell_has hy
    · exact absurd rfl (S.nofree _ (PySem.mem_of_lookup hy))
  · exact Nat.le_of_lt (x.above y c (PySem.mem_of_lookup h))
  · have hi : i < vs.length := by
      unfold start at h2
      by_cases hi : i < vs.length
      · exact hi
      · rw [List.getElem?_append_right (by simpa using hi)] at h2
        rw [List.getElem?_replicate] at h2
        split at h2 <;> cases h2
    have ha : vs[i]? = some v := by
      unfold start at h2
      rw [List.getElem?_append_left (by simpa using hi), List.getElem?_map] at h2
      cases e : vs[i]? with
      | none => rw [e] at h2; cases h2
      | some a => rw [e] at h2; cases h2; rfl
    obtain ⟨u, hu, rv⟩ := r.get ha
    have hp : ps[i]? = some y := by
      rw [← S.pre, List.getElem?_take_of_lt (by omega)]; exact h1
    have ndP : ps.Nodup := by rw [← S.pre]; exact S.nd.sublist (List.take_sublist _ _)
    refine ⟨u, rv, ?_⟩
    rcases S.par y (List.mem_of_getElem? hp) with k | k
    · exact .inl ⟨k, bindL_get ndP hp hu k⟩
    · obtain ⟨c, e⟩ := cell_has (n := s.heap.objs.size + 1) k
      refine .inr ⟨.inl k, c, e, ?_⟩
      have q := x.cell y c e
      rw [bindC_get ndP hp hu (by show scope.names.lookup y ≠ _; rw [k]; decide)] at q
      exact q
  · exact e0.hok.fresh (Nat.le_of_lt (x.above y c (PySem.mem_of_lookup h)))
  · unfold start
    show _ = N.length
    rw [List.length_append, List.length_map, List.length_replicate]
    omega
/-- THE RULE: a def (or a method) of the text, by its body. The body's reading t is chosen for each entry; it is run at the parameters' values -/
theorem fn_of {CX : CXT} {P : Program} {w : World} {K : PySem.W.Frag} {mg : Str → Option Value} {base : Heap} {k : Nat} {f : Addr} {name qual : Str} {params : Arguments} {body : List Stmt} {scope : Scope} {dV kV doc pm cdv ct oc : Value} {an od : Option Addr}
    {osl : Array (Option Value)} {N ps : List Str} {sp : Sp} (lk : K.lookup f = some ⟨oc, od, .func (PySem.W.fnOf name qual params body scope dV kV doc pm an cdv ct), osl⟩) (hcd : PySem.W.codeIn K cdv qual = true) (S : FnScope N ps scope)
    (len : ∀ vs H Q E, sp vs H Q E → vs.length = ps.length)
    (hbody : ∀ (A : Around) (outer : List Env) (s : Shared) (H : Hp) (vs : List V) (Q : VK) (E : XK), Room k (A.deeper (envOfC qual scope s.heap.objs.size f cdv)) → sp vs H Q E →
      ∃ t, PSs (cxOf CX P w K mg base N qual scope f cdv A outer s H E) body t ∧ t { nx := fun _ H' => Q .non H', rt := Q } (start N vs) H) :
    FnOk P w K mg base CX (k + 1) f (PySem.W.fnOf name qual params body scope dV kV doc pm an cdv ct) ps sp := by
  refine ⟨len, fun A outer s H args us vs Q E hr e0 hb r hsp => ?_⟩
  have hl := len _ _ _ _ hsp
  have KX : K.In s.heap := e0.mod.kin.keeps fun b o e => (e0.bs b o e).1
  have lim : s.heap.NoLimit := e0.mod.nolimit.keeps fun b o e => (e0.bs b o e).1
  have hkind : ∀ y ∈ ps.zip us, scope.names.lookup y.1 = some .local ∨ (scope.names.lookup y.1 = some .cell ∧ ((cellsFrom (s.heap.objs.size + 1) scope.names []).lookup y.1).isSome = true) := fun ⟨n, v⟩ hy => by
    rcases S.par n (List.of_mem_zip hy).1 with q | q
    · exact .inl q
    · exact .inr ⟨q, PySem.W.cellsFrom_some _ _ _ (.inl q)⟩
  refine codeAny_call_function hr.depth (KX _ _ lk) rfl S.co S.gen rfl (PySem.W.codeRec_of KX hcd) (hb _ _ _ _ ?_)
  refine wpAny_newFunctionEnv_cells S.kind hkind fun env he s1 x => ?_
  subst he
  refine ⟨lim.keeps x.toInCall.keep, codeAny_func ?_⟩
  obtain ⟨t, ht, hq⟩ := hbody A outer s H vs Q E (hr.deeper _) hsp
  have I : Inv (cxOf CX P w K mg base N qual scope f cdv A outer s H E) [] (start N vs) H s1 := inv_start S hr.hd e0 hl r x
  refine wpAny_mono (ht [] s1 (start N vs) H _ I hq) (fun fl s' hs => ?_) fun e s' hs => hs
  have fin : ∀ {σ' : St} {H' : Hp} {v : V} {u : Value}, Inv (cxOf CX P w K mg base N qual scope f cdv A outer s H E) [] σ' H' s' → RelV v u → Q v H' → CE outer P w H s Q u s' :=
    fun {σ' H' v u} J rv q => ⟨v, H', J.os, J.bare, J.base, J.hok, rv, q⟩
  cases fl with
  | ret u =>
    obtain ⟨v, σ', H', J, rv, q⟩ := hs
    exact fin J rv q
  | next =>
    obtain ⟨σ', H', J, q⟩ := hs
    exact fin (v := V.non) (u := Value.none) J rfl q
  | brk =>
    obtain ⟨_, _, _, q⟩ := hs
    exact False.elim q
  | cont =>
    obtain ⟨_, _, _, q⟩ := hs
    exact False.elim q
end L2
namespace L2
open PySem PySem.Spec PyProof.Rows
section
variable {X : Cx} {x : Str} {p pos : Pos} {e : Expr} {es : List Expr} {t : TA} {id T : String} {r : List V → Hp → VK → Prop}
def tCB (r : List V → Hp → VK → Prop) (t : TA) : TE := fun σ H Q => t σ H fun vs H1 => r vs H1 Q
/-- f(e, ..), f a built-in function -/
theorem pe_callB (hc : CallR X (.builtin id) r) (hg : Gl X x) (hm : X.mg x = none) (hv : bootBuiltins x = some (.builtin id)) (ha : PA X (e :: es) t) (hn : x ≠ "__name__" := by decide) (hdb : (x == ("__debug__" : Str)) = false := by decide)
    (he : starEach (e :: es) X.env = (false, eval e X.env) :: starEach es X.env := by rfl) (hpl : (backTo pos (starEach es X.env)).any (·.1) = false := by rfl) : PE X (.Call (.Name x p) (e :: es) [] pos) (tCB r t) := by
  intro pins s σ H Q I h
  refine wpAny_Call_Name_kw (ld_blt I hg hm hv ?_ hn hdb)
  exact PyProof.Rows.callWith_builtin1 (thn (ha pos pins s σ H _ I h) fun us s1 ⟨vs, H1, I1, r1, q1⟩ => hc pins s1 σ H1 vs us Q I1 r1 q1) he hpl
/-- T(e, ..), T a built-in type -/
theorem pe_callTy (hc : CallR X (.type T) r) (hg : Gl X x) (hm : X.mg x = none) (hv : bootBuiltins x = some (.type T)) (ha : PA X (e :: es) t) (hn : x ≠ "__name__" := by decide) (hdb : (x == ("__debug__" : Str)) = false := by decide)
    (he : starEach (e :: es) X.env = (false, eval e X.env) :: starEach es X.env := by rfl) (hpl : (backTo pos (starEach es X.env)).any (·.1) = false := by rfl) : PE X (.Call (.Name x p) (e :: es) [] pos) (tCB r t) := by
  intro pins s σ H Q I h
  refine wpAny_Call_Name_kw (ld_blt I hg hm hv ?_ hn hdb)
  exact PyProof.Rows.callWith_type1 (thn (ha pos pins s σ H _ I h) fun us s1 ⟨vs, H1, I1, r1, q1⟩ => hc pins s1 σ H1 vs us Q I1 r1 q1) he hpl
end
end L2
namespace HT
open PySem PyProof.Rows
section
open PySem.SeqAt
open PySem.AutoSeq1 (wpAny_loadPart')
open PySem.MeetsSeq PySem.MeetsSeq2 PySem.MeetsSeq3
end
section
variable {prog : Program} {w : World} {A : Around} {E : Value → Shared → Prop} {s : Shared}
/-- a slice's bound as a place among n (d where it is left out) -/
def sIx (n d : Nat) : Option Int → Nat
  | none => d
  | some v => if v < 0 then (v + (n : Int)).toNat else min v.toNat n
end
end HT
namespace L2
open PySem PySem.Spec PyProof.Rows
abbrev TO := St → Hp → (Option Int → Hp → Prop) → Prop
/-- a slice's part (left out, or an int) -/
def PO (X : Cx) (e : Option Expr) (t : TO) : Prop :=
  ∀ (pins : List (Addr × Obj)) (s : Shared) (σ : St) (H : Hp) (Q : Option Int → Hp → Prop), Inv X pins σ H s → t σ H Q →
    wpAny (model X.prog X.w) X.A (evalPart e X.env) (fun u s' => ∃ o H', Inv X pins σ H' s' ∧ IsPart u o ∧ Q o H') X.xe s
def tPart (t : TE) : TO := fun σ H Q => t σ H fun x H1 => ∃ i, x = .int i ∧ Q (some i) H1
section
variable {X : Cx} {e : Expr} {te : TE} {lo hi : Option Expr} {tl th : TO} {pos p2 : Pos}
theorem po_some (h : PE X e te) : PO X (some e) (tPart te) := by
  intro pins s σ H Q I hw
  rw [evalPart_some]
  refine thn (h pins s σ H _ I hw) fun u s1 ⟨x, H1, I1, r1, q1⟩ => ?_
  obtain ⟨i, rfl, q⟩ := q1
  obtain ⟨t, rfl⟩ := r1
  exact ⟨some i, H1, I1, .int i t, q⟩
/-- what a slice of a value is, by values: the slice object stands at sl -/
def SlR (X : Cx) (r : V → Option Int → Option Int → Hp → VK → Prop) : Prop :=
  ∀ (pins : List (Addr × Obj)) (s : Shared) (σ : St) (H : Hp) (x : V) (v vl vu : Value) (lo hi : Option Int) (sl : Addr) (Q : VK), Inv X pins σ H s → RelV x v → s.heap.IsSliceOf sl vl vu .none → IsPart vl lo → IsPart vu hi → r x lo hi H Q →
    ∃ T id, typeLookup (.type T) "__getitem__" = pure (some (.builtin id)) ∧ s.TypeIs v T ∧ wpAny (model X.prog X.w) X.A (getItem v (.ref sl)) (EP X pins σ Q) X.xe s
def tSl (r : V → Option Int → Option Int → Hp → VK → Prop) (te : TE) (tl th : TO) : TE := fun σ H Q => te σ H fun x H1 => tl σ H1 fun l H2 => th σ H2 fun u H3 => r x l u H3 Q
/-- a[lo:hi], any a -/
theorem pe_slice {r : V → Option Int → Option Int → Hp → VK → Prop} (hr : SlR X r) (he : PE X e te) (hl : PO X lo tl) (hu : PO X hi th) : PE X (.Subscript e (.Slice lo hi none p2) pos) (tSl r te tl th) := by
  intro pins s σ H Q I h
  refine Subscript_ (thn (he pins s σ H _ I h) fun v s1 ⟨x, H1, I1, r1, q1⟩ => ?_)
  refine wpAny_Slice (thn (hl pins s1 σ H1 _ I1 q1) fun vl s2 ⟨l, H2, I2, pl, q2⟩ => thn (hu pins s2 σ H2 _ I2 q2) fun vu s3 ⟨u, H3, I3, pu, q3⟩ => ?_)
  rw [evalPart_none]
  refine wpAny_pure ?_
  have I4 : Inv X pins σ H3 { s3 with heap := s3.heap.push { cls := .type "slice", data := .fields #[vl, vu, .none] } } := I3.kept (t' := s3.toks) fun b ob q => Heap.get?_push_of_some _ q
  obtain ⟨T, id, hT, ht, hg⟩ := hr pins { s3 with heap := s3.heap.push { cls := .type "slice", data := .fields #[vl, vu, .none] } } σ H3 x v vl vu l u s3.heap.objs.size Q I4 r1 (Heap.IsSliceOf.new ..) pl pu q3
  show wpAny (model X.prog X.w) X.A (subscriptTail e (.Slice lo hi none p2) v (.ref s3.heap.objs.size)) (EP X pins σ Q) X.xe { s3 with heap := s3.heap.push { cls := .type "slice", data := .fields #[vl, vu, .none] } }
  exact tail_any (ops := [.ref s3.heap.objs.size, v]) ht hT hg (by with_unfolding_all rfl)
/-- the items of xs[lo:hi] -/
def cutV (xs : List V) (lo hi : Option Int) : List V := (xs.drop (HT.sIx xs.length 0 lo)).take (HT.sIx xs.length xs.length hi - HT.sIx xs.length 0 lo)
theorem cutV_length (xs : List V) (lo hi : Option Int) : (cutV xs lo hi).length ≤ xs.length := by
  unfold cutV
  rw [List.length_take, List.length_drop]
  omega
end
end L2
namespace L2
open PySem PySem.Spec PyProof.Rows
/-- the place that an index of any sign means -/
def ixN (n : Nat) (i : Int) : Option Nat := if 0 ≤ i then (if i < n then some i.toNat else none) else if -(n : Int) ≤ i then some (i + n).toNat else none
def atI {α : Type} (xs : List α) (i : Int) : Option α := (ixN xs.length i).bind fun j => xs[j]?
theorem ixN_seq {n : Nat} {i : Int} {j : Nat} (h : ixN n i = some j) : seqIndex? i n = some j ∧ j < n ∧ -(n : Int) ≤ i ∧ i < n := by
  unfold ixN at h
  by_cases h0 : 0 ≤ i
  · rw [if_pos h0] at h
    by_cases h1 : i < n
    · rw [if_pos h1] at h
      have e : i.toNat = j := Option.some.inj h
      exact ⟨by rw [seqIndex_of h0 h1, e], by omega, by omega, h1⟩
    · rw [if_neg h1] at h; cases h
  · rw [if_neg h0] at h
    by_cases h1 : -(n : Int) ≤ i
    · rw [if_pos h1] at h
      have e : (i + n).toNat = j := Option.some.inj h
      exact ⟨by rw [seqIndex_neg (by omega) h1, e], by omega, h1, by omega⟩
    · rw [if_neg h1] at h; cases h
theorem atI_get {α : Type} {xs : List α} {i : Int} {v : α} (h : atI xs i = some v) : ∃ j, seqIndex? i xs.length = some j ∧ xs[j]? = some v ∧ j < xs.length ∧ -(xs.length : Int) ≤ i ∧ i < xs.length := by
  unfold atI at h
  cases e : ixN xs.length i with
  | none => rw [e] at h; cases h
  | some j =>
    rw [e] at h
    obtain ⟨h1, h2, h3, h4⟩ := ixN_seq e
    exact ⟨j, h1, h, h2, h3, h4⟩
theorem atI_nat {α : Type} {xs : List α} {j : Nat} {v : α} (h : xs[j]? = some v) : atI xs (j : Int) = some v := by
  have hj : j < xs.length := (List.getElem?_eq_some_iff.mp h).1
  have e : ixN xs.length (j : Int) = some j := by
    unfold ixN
    rw [if_pos (by omega), if_pos (by omega)]; simp
  unfold atI; rw [e]; exact h
theorem atI_last {α : Type} (xs : List α) (v : α) : atI (xs ++ [v]) (-1) = some v := by
  have hl : (xs ++ [v]).length = xs.length + 1 := by simp
  have e : ixN (xs ++ [v]).length (-1) = some xs.length := by
    unfold ixN
    rw [hl, if_neg (by decide), if_pos (by omega)]
    congr 1
    omega
  unfold atI
  rw [e]
  show (xs ++ [v])[xs.length]? = some v
  simp
/-- what stands as an index of a plain subscript -/
def PlainIx (b : Expr) : Prop := ∀ o i, subscripted b false o i = operate [o, i] (getItem o i)
/-- a subscript by values -/
def IxR (X : Cx) (r : R2) : Prop :=
  ∀ (value slice : Expr) (pins : List (Addr × Obj)) (s : Shared) (σ : St) (H : Hp) (x y : V) (v u : Value) (Q : VK), Inv X pins σ H s → RelV x v → RelV y u → r x y H Q →
    subscripted slice false v u = operate [v, u] (getItem v u) → wpAny (model X.prog X.w) X.A (subscriptTail value slice v u) (EP X pins σ Q) X.xe s
/-- a call of a builtin's method by values: the receiver, the arguments -/
def MtR (X : Cx) (id : String) (r : V → List V → Hp → VK → Prop) : Prop :=
  ∀ (pins : List (Addr × Obj)) (s : Shared) (σ : St) (H : Hp) (x : V) (xs : List V) (v : Value) (us : List Value) (Q : VK), Inv X pins σ H s → RelV x v → Vals xs us → r x xs H Q →
    wpAny (model X.prog X.w) X.A (call (.builtin id) (v :: us)) (EP X pins σ Q) X.xe s
section
variable {X : Cx} {a b : Expr} {ta tb : TE} {pos : Pos}
/-- a[b] -/
theorem pe_ix {r : R2} (hr : IxR X r) (ha : PE X a ta) (hb : PE X b tb) (hs : PlainIx b) : PE X (.Subscript a b pos) (tOp r ta tb) := by
  intro pins s σ H Q I h
  exact Subscript_ (binT ha hb I h fun v u s2 x y H2 I2 rx ry q => hr a b pins s2 σ H2 x y v u Q I2 rx ry q (hs _ _))
def rIxL (K : PySem.W.Frag) : R2 := fun x y H Q => ∃ p xs i v, x = .ref p ∧ y = .int i ∧ SqL K H p xs ∧ atI xs i = some v ∧ Q v H
def rIxT (K : PySem.W.Frag) : R2 := fun x y H Q => ∃ p xs i v, x = .ref p ∧ y = .int i ∧ SqT K H p xs ∧ atI xs i = some v ∧ Q v H
theorem ix_list : IxR X (rIxL X.K) := by
  intro value slice pins s σ H x y v u Q I rx ry h hs
  obtain ⟨p, xs, i, z, rfl, rfl, hq, he, q⟩ := h
  cases rx
  obtain ⟨t, rfl⟩ := ry
  obtain ⟨its, r, pl, hz⟩ := I.list hq
  obtain ⟨j, h1, h2, h3, h4, h5⟩ := atI_get he
  obtain ⟨w, ew, rw'⟩ := r.get h2
  have hl := r.length
  have hn := line63
  have fin : EP X pins σ Q w s := ⟨z, H, I, rw', q⟩
  by_cases h0 : 0 ≤ i
  · have hj : i.toNat = j := by
      rw [seqIndex_of h0 h5] at h1
      exact Option.some.inj h1
    exact item_listR pl.isList h0 (by omega) (by rw [hj]; simpa using ew) fin hs
  · have hj : (i + (its.toArray.size : Int)).toNat = j := by
      rw [seqIndex_neg (by omega) h4] at h1
      rw [List.size_toArray, ← hl]
      exact Option.some.inj h1
    exact subscriptTail_builtinR (x := w) pl.isList.typeIs slot_list_getitem.lookup
      (wpAny_getItem_list_neg (Q := fun r s' => r = w ∧ EP X pins σ Q r s') pl.isList (by omega) (by rw [List.size_toArray] <;> omega) (by omega) (by rw [hj]; simpa using ew) ⟨rfl, fin⟩) hs
theorem ix_tup : IxR X (rIxT X.K) := by
  intro value slice pins s σ H x y v u Q I rx ry h hs
  obtain ⟨p, xs, i, z, rfl, rfl, hq, he, q⟩ := h
  cases rx
  obtain ⟨t, rfl⟩ := ry
  obtain ⟨its, r, pl, hz⟩ := I.tuple hq
  obtain ⟨j, h1, h2, h3, h4, h5⟩ := atI_get he
  obtain ⟨w, ew, rw'⟩ := r.get h2
  have hl := r.length
  have hn := line63
  have fin : EP X pins σ Q w s := ⟨z, H, I, rw', q⟩
  exact subscriptTail_builtinR (x := w) pl.typeIs slot_tuple_getitem.lookup
    (getItem_tuple (j := j) (Q := fun r s' => r = w ∧ EP X pins σ Q r s') pl (by omega) (by omega) (by rw [List.size_toArray, ← hl]; exact h1) (by simpa using ew) ⟨rfl, fin⟩) hs
theorem slice_bounds (lo hi : Option Int) (n : Nat) : (sliceBounds lo hi none n).1 = ((HT.sIx n 0 lo : Nat) : Int) ∧ (sliceBounds lo hi none n).2.1 = ((HT.sIx n n hi : Nat) : Int) ∧ (sliceBounds lo hi none n).2.2 = 1 := by
  refine ⟨?_, ?_, rfl⟩
  · cases lo with
    | none => simp [sliceBounds, HT.sIx]
    | some i =>
      simp only [sliceBounds, HT.sIx, Option.getD_none, show (1 : Int) > 0 by decide, if_true]
      by_cases h : i < 0
      · simp only [h, if_true] <;> omega
      · simp only [h, if_false] <;> omega
  · cases hi with
    | none => simp [sliceBounds, HT.sIx]
    | some i =>
      simp only [sliceBounds, HT.sIx, Option.getD_none, show (1 : Int) > 0 by decide, if_true]
      by_cases h : i < 0
      · simp only [h, if_true] <;> omega
      · simp only [h, if_false] <;> omega
theorem slicePick_cut (its : List Value) (lo hi : Option Int) : slicePick its.toArray lo hi none = ((its.drop (HT.sIx its.length 0 lo)).take (HT.sIx its.length its.length hi - HT.sIx its.length 0 lo)).toArray := by
  obtain ⟨h1, h2, h3⟩ := slice_bounds lo hi its.toArray.size
  unfold slicePick
  rw [h1, h2, h3]
  simp only [sliceRange_one, pick_run, List.size_toArray] <;> rfl
/-- xs[lo:hi] of a list: a new list -/
def rSlL (K : PySem.W.Frag) : V → Option Int → Option Int → Hp → VK → Prop := fun x lo hi H Q => ∃ a xs, x = .ref a ∧ SqL K H a xs ∧ ∀ p, H p = none → Q (.ref p) (upd H p (.lst (cutV xs lo hi)))
theorem sl_list : SlR X (rSlL X.K) := by
  intro pins s σ H x v vl vu lo hi sl Q I rx hs pl pu h
  obtain ⟨a, xs, rfl, hx, q⟩ := h
  cases rx
  obtain ⟨its, r, ht, hz⟩ := I.list hx
  have hlen := r.length
  refine ⟨"list", _, slot_list_getitem.lookup, ht.isList.typeIs, ?_⟩
  refine wpAny_getItem_list_slice ht.isList hs pl pu .none (by simp) ?_ (by rw [List.size_toArray] <;> omega)
  rw [slicePick_cut, ← hlen]
  refine ⟨.ref s.heap.objs.size, _, I.laid (t' := s.toks) (o := .lst (cutV xs lo hi)) (fun b ob q => Heap.get?_push_of_some _ q) (Nat.le_refl _) ?_, rfl, q _ (I.hok.fresh (Nat.le_refl _))⟩
  exact ⟨Nat.le_trans (cutV_length xs lo hi) hz, _, 0, (r.drop (HT.sIx xs.length 0 lo)).take (HT.sIx xs.length xs.length hi - HT.sIx xs.length 0 lo), Heap.get?_push_size _ rfl⟩
def flatV : V → Bool
  | .non => true
  | .bl _ => true
  | .int _ => true
  | .str _ => true
  | _ => false
/-- == of flat values -/
def eqV : V → V → Bool
  | .non, .non => true
  | .bl a, .bl b => a == b
  | .bl a, .int b => (if a then 1 else 0) == b
  | .int a, .bl b => a == (if b then 1 else 0)
  | .int a, .int b => a == b
  | .str a, .str b => a == b
  | _, _ => false
theorem eqAt_V {A : Around} {s : Shared} {y x : V} {u v : Value} (ry : RelV y u) (rx : RelV x v) (fy : flatV y = true) (fx : flatV x = true) : SeqAt.EqAt A s u v (eqV y x) := by
  cases y with
  | non =>
    cases ry
    cases x with
    | non => cases rx; exact SeqAt.EqAt.same _
    | bl b => cases rx; exact SeqAt.EqAt.none_bool b
    | int b => obtain ⟨t, rfl⟩ := rx; exact SeqAt.EqAt.none_int b t
    | str b => obtain ⟨t, rfl⟩ := rx; exact SeqAt.EqAt.none_str b t
    | _ => exact absurd (show false = true from fx) Bool.false_ne_true
  | bl a =>
    cases ry
    cases x with
    | non => cases rx; exact SeqAt.EqAt.bool_none a
    | bl b => cases rx; exact SeqAt.EqAt.bool_bool a b
    | int b => obtain ⟨t, rfl⟩ := rx; exact SeqAt.EqAt.bool_int a b t
    | str b => obtain ⟨t, rfl⟩ := rx; exact SeqAt.EqAt.bool_str a b t
    | _ => exact absurd (show false = true from fx) Bool.false_ne_true
  | int a =>
    obtain ⟨t', rfl⟩ := ry
    cases x with
    | non => cases rx; exact SeqAt.EqAt.int_none a t'
    | bl b => cases rx; exact SeqAt.EqAt.int_bool a t' b
    | int b => obtain ⟨t, rfl⟩ := rx; exact SeqAt.EqAt.int_int a t' b t
    | str b => obtain ⟨t, rfl⟩ := rx; exact SeqAt.EqAt.int_str a t' b t
    | _ => exact absurd (show false = true from fx) Bool.false_ne_true
  | str a =>
    obtain ⟨t', rfl⟩ := ry
    cases x with
    | non => cases rx; exact SeqAt.EqAt.str_none a t'
    | bl b => cases rx; exact SeqAt.EqAt.str_bool a t' b
    | int b => obtain ⟨t, rfl⟩ := rx; exact SeqAt.EqAt.str_int a t' b t
    | str b => obtain ⟨t, rfl⟩ := rx; exact SeqAt.EqAt.str_str a t' b t
    | _ => exact absurd (show false = true from fx) Bool.false_ne_true
  | _ => exact absurd (show false = true from fy) Bool.false_ne_true
/-- the items' answers, read off the values (a value's own answer does not lean on its token) -/
def eqU (x : V) (u : Value) : Bool := match u with
  | .none => eqV .non x
  | .bool b => eqV (.bl b) x
  | .int i _ => eqV (.int i) x
  | .str z _ => eqV (.str z) x
  | _ => false
theorem eqU_of {x y : V} {u : Value} (r : RelV y u) (f : flatV y = true) : eqU x u = eqV y x := by
  cases y with
  | non => cases r; rfl
  | bl b => cases r; rfl
  | int i => obtain ⟨t, rfl⟩ := r; rfl
  | str z => obtain ⟨t, rfl⟩ := r; rfl
  | _ => exact absurd (show false = true from f) Bool.false_ne_true
theorem any_eqU {x : V} : ∀ {xs : List V} {us : List Value}, Vals xs us → xs.all flatV = true → us.any (eqU x) = xs.any fun y => eqV y x
  | _, _, .nil, _ => rfl
  | y :: xs, u :: us, .cons r t, f => by
    rw [List.all_cons, Bool.and_eq_true] at f
    rw [List.any_cons, List.any_cons, eqU_of r f.1, any_eqU t f.2]
theorem mem_eqAt {A : Around} {s : Shared} {x : V} {v : Value} (rx : RelV x v) (fx : flatV x = true) : ∀ {xs : List V} {us : List Value}, Vals xs us → xs.all flatV = true → ∀ u ∈ us, SeqAt.EqAt A s u v (eqU x u)
  | _, _, .nil, _ => fun u hu => by cases hu
  | y :: xs, u :: us, .cons r t, f => fun u' hu => by
    rw [List.all_cons, Bool.and_eq_true] at f
    rcases List.mem_cons.mp hu with rfl | hu
    · rw [eqU_of r f.1]; exact eqAt_V r rx f.1 fx
    · exact mem_eqAt rx fx t f.2 u' hu
def inV (x : V) (xs : List V) : Bool := xs.any fun y => eqV y x
/-- x in a list or tuple of flat items -/
def rIn (K : PySem.W.Frag) (neg : Bool) : R2 := fun x y H Q => ∃ p xs, y = .ref p ∧ (SqL K H p xs ∨ SqT K H p xs) ∧ flatV x = true ∧ xs.all flatV = true ∧ Q (.bl (if neg then !inV x xs else inV x xs)) H
theorem op_in_seq : OpR X (compareOp .In) (rIn X.K false) := by
  intro pins s σ H x y v u Q I rx ry h
  obtain ⟨p, xs, rfl, hq, fx, fs, q⟩ := h
  cases ry
  rcases hq with hq | hq
  · obtain ⟨its, r, pl, hz⟩ := I.list hq
    refine SeqAt.in_listAt (eqU x) pl.isList (fun w hw => mem_eqAt rx fx r fs w (by simpa using hw)) ⟨.bl _, H, I, rfl, ?_⟩
    rw [show its.toArray.any (eqU x) = its.any (eqU x) by simp, any_eqU r fs]
    exact q
  · obtain ⟨its, r, pl, hz⟩ := I.tuple hq
    refine SeqAt.in_tupleAt (eqU x) pl (fun w hw => mem_eqAt rx fx r fs w (by simpa using hw)) ⟨.bl _, H, I, rfl, ?_⟩
    rw [show its.toArray.any (eqU x) = its.any (eqU x) by simp, any_eqU r fs]
    exact q
theorem call_len_seq : CallR X (.builtin "len") (fun xs H Q => ∃ p ys, xs = [.ref p] ∧ (SqL X.K H p ys ∨ SqT X.K H p ys) ∧ Q (.int ys.length) H) := by
  intro pins s σ H xs us Q I r h
  obtain ⟨p, ys, rfl, hq, q⟩ := h
  obtain ⟨u, rfl, rx⟩ := vals1 r
  cases rx
  have hn := line63
  rcases hq with hq | hq
  · obtain ⟨its, r', pl, hz⟩ := I.list hq
    have hlen := r'.length
    exact Calls.call_len_list pl.isList (by simp only [List.size_toArray] <;> omega) ⟨.int ys.length, H, I.tok _, ⟨s.toks + 1, by rw [List.size_toArray, hlen]⟩, q⟩
  · obtain ⟨its, r', pl, hz⟩ := I.tuple hq
    have hlen := r'.length
    exact len_tuple pl (by simp only [List.size_toArray] <;> omega) ⟨.int ys.length, H, I.tok _, ⟨s.toks + 1, by rw [List.size_toArray, hlen]⟩, q⟩
theorem call_list_of : CallR X (.type "list") (fun xs H Q => ∃ p ys, xs = [.ref p] ∧ (SqL X.K H p ys ∨ SqT X.K H p ys) ∧ ∀ l, H l = none → Q (.ref l) (upd H l (.lst ys))) := by
  intro pins s σ H xs us Q I r h
  obtain ⟨p, ys, rfl, hq, q⟩ := h
  obtain ⟨u, rfl, rx⟩ := vals1 r
  cases rx
  have fin : ∀ (its : List Value), Vals ys its → ys.length ≤ sizeLine → ∀ (h' : Heap) (c' : Nat), (∀ b o', s.heap.get? b = some o' → h'.get? b = some o') →
      h'.get? s.heap.objs.size = some { cls := .type "list", dict := none, data := .seq its.toArray c', slots := #[] } → EP X pins σ Q (.ref s.heap.objs.size) { s with heap := h' } := fun its r' hz h' c' kp e =>
    ⟨.ref s.heap.objs.size, _, I.laid (t' := s.toks) kp (Nat.le_refl _) (show ObjOk X.prog X.w _ h' _ (.lst ys) from ⟨hz, its, c', r', e⟩), rfl, q _ (I.hok.fresh (Nat.le_refl _))⟩
  rcases hq with hq | hq
  · obtain ⟨its, r', pl, hz⟩ := I.list hq
    have hlen := r'.length
    obtain ⟨o, ho, hc, n, hd⟩ := pl.isList
    exact call_list_seq p (.inl rfl) ho hc hd (fun h' c' kp e => fin its r' hz h' c' kp e) (by simp only [List.size_toArray] <;> omega)
  · obtain ⟨its, r', pl, hz⟩ := I.tuple hq
    have hlen := r'.length
    obtain ⟨o, ho, hc, n, hd⟩ := pl
    exact call_list_seq p (.inr rfl) ho hc hd (fun h' c' kp e => fin its r' hz h' c' kp e) (by simp only [List.size_toArray] <;> omega)
/-- the value is of that builtin type -/
def tyV (K : PySem.W.Frag) (T : String) (x : V) (H : Hp) : Prop := match x with
  | .str _ => T = "str"
  | .int _ => T = "int"
  | .ref p => (T = "list" ∧ ∃ xs, SqL K H p xs) ∨ (T = "tuple" ∧ ∃ o, K.lookup p = some o ∧ o.cls = .type "tuple" ∧ o.dict = none) ∨
      (T = "dict" ∧ ((∃ kvs, H p = some (.dK kvs)) ∨ ∃ kvs, H p = some (.dT kvs))) ∨ (T = "set" ∧ ∃ S n, H p = some (.set S n))
  | _ => False
theorem tyV_is {pins : List (Addr × Obj)} {σ : St} {H : Hp} {s : Shared} {T : String} {x : V} {v : Value} (I : Inv X pins σ H s) (r : RelV x v) (ty : tyV X.K T x H) :
    s.TypeIs v T ∧ ∀ a, v = .ref a → ∃ ob, s.heap.get? a = some ob ∧ ob.dict = none := by
  cases x with
  | str z =>
    obtain ⟨t, rfl⟩ := r
    cases (show T = "str" from ty)
    exact ⟨typeIs_str s z t, fun _ e => nomatch e⟩
  | int i =>
    obtain ⟨t, rfl⟩ := r
    cases (show T = "int" from ty)
    exact ⟨typeIs_int s i t, fun _ e => nomatch e⟩
  | ref p =>
    cases r
    rcases ty with ⟨rfl, xs, hq⟩ | ⟨rfl, o, hk, hc, hd⟩ | ⟨rfl, hk⟩ | ⟨rfl, S, n, hk⟩
    · obtain ⟨its, _, pl, _⟩ := I.list hq
      refine ⟨pl.isList.typeIs, fun a e => ?_⟩
      cases e
      obtain ⟨o, n, e, c, hd, _⟩ := pl
      exact ⟨o, e, hd⟩
    · refine ⟨⟨o, I.kIn p o hk, hc⟩, fun a e => ?_⟩
      cases e
      exact ⟨o, I.kIn _ o hk, hd⟩
    · have z : ∃ o, s.heap.get? p = some o ∧ o.ExactDict := by
        rcases hk with ⟨kvs, hk⟩ | ⟨kvs, hk⟩
        · obtain ⟨_, _, _, _, o, _, _, e, ex, _⟩ := I.hok p _ hk
          exact ⟨o, e, ex⟩
        · obtain ⟨_, _, _, _, o, _, _, e, ex, _⟩ := I.hok p _ hk
          exact ⟨o, e, ex⟩
      obtain ⟨o, e, ex⟩ := z
      refine ⟨⟨o, e, ex.1⟩, fun a e2 => ?_⟩
      cases e2
      exact ⟨o, e, ex.2.1⟩
    · obtain ⟨o, _, _, _, e, ex, _⟩ := I.hok p _ hk
      refine ⟨⟨o, e, ex.1⟩, fun a e2 => ?_⟩
      cases e2
      exact ⟨o, e, ex.2.1⟩
  | _ => exact False.elim ty
def tBM (K : PySem.W.Frag) (T : String) (r : V → List V → Hp → VK → Prop) (to : TE) (t : TA) : TE := fun σ H Q => to σ H fun x H1 => tyV K T x H1 ∧ t σ H1 fun xs H2 => r x xs H2 Q
variable {o e : Expr} {es : List Expr} {to : TE} {t : TA} {name : Str} {apos cpos : Pos} {T id : String} {r : V → List V → Hp → VK → Prop}
theorem pe_bm (pa : PlainAttrs T) (slot : Slot T name id) (hty : typeOf (.builtin id) = pure (.type "method_descriptor")) (hm : MtR X id r) (ho : PE X o to) (ha : PA X (e :: es) t)
    (hbase : attributeBase o name X.env (eval o X.env) = eval o X.env := by rfl)
    (hfew : ((backTo cpos (starEach (e :: es) X.env)).all (fun x => !x.1) && (backToKw cpos (keywordEach [] X.env)).all (fun x => x.1.isSome)
      && decide ((e :: es).length + ([] : List Keyword).length + (if ([] : List Keyword).isEmpty then 0 else 1) < 30)) = true := by rfl)
    (hline : (apos.endLine == cpos.line) = true := by rfl) (hs : starEach (e :: es) X.env = (false, eval e X.env) :: starEach es X.env := by rfl) (hplain : (backTo cpos (starEach es X.env)).any (·.1) = false := by rfl) :
    PE X (.Call (.Attribute o name apos) (e :: es) [] cpos) (tBM X.K T r to t) := by
  intro pins s σ H Q I h
  refine wpAny_Call_method_late hbase hfew hline rfl (thn (ho pins s σ H _ I h) fun v s1 ⟨x, H1, I1, r1, ty, q1⟩ => ?_)
  obtain ⟨h1, h2⟩ := tyV_is I1 r1 ty
  refine ⟨T, id, pa, slot, hty, h1, h2, ?_⟩
  have hA := ha cpos pins s1 σ H1 _ I1 q1
  rw [hs] at hA ⊢
  refine Calls.callWith_builtin (by show (false || (backTo cpos (starEach es X.env)).any (·.1)) = false; rw [hplain] <;> rfl) (Calls.evalArgs_plain ?_)
  exact thn hA fun us s2 ⟨vs, H2, I2, r2, q2⟩ => hm pins s2 σ H2 x vs v us Q I2 r1 r2 q2
/- xs.append(e), list.index on a module's tuple .. are MtR facts of 06m -/
end
end L2
namespace L2
open PySem PySem.Spec PyProof.Rows
def MtM (X : Cx) (id : String) (r : V → List V → Hp → VK → Prop) : Prop :=
  ∀ (pins : List (Addr × Obj)) (s : Shared) (σ : St) (H : Hp) (x : V) (xs : List V) (v : Value) (us : List Value) (Q : VK), Inv X pins σ H s → RelV x v → Vals xs us → r x xs H Q →
    wpAny (model X.prog X.w) X.A (call (.builtin id) (v :: us)) (EP X pins σ Q) X.xe s
theorem Vals.one : ∀ {x : V} {us : List Value}, Vals [x] us → ∃ u, us = [u] ∧ RelV x u
  | _, _, .cons r .nil => ⟨_, rfl, r⟩
theorem Vals.rep {xs : List V} {us : List Value} (h : Vals xs us) : ∀ k : Nat, Vals (List.replicate k xs).flatten (List.replicate k us).flatten
  | 0 => .nil
  | k + 1 => by
    rw [List.replicate_succ, List.replicate_succ, List.flatten_cons, List.flatten_cons]
    exact Vals.append h (Vals.rep h k)
theorem foldl_rep (its : List Value) : ∀ (k : Nat) (acc : List Value),
    List.foldl (fun x1 x2 => x1 ++ x2) acc.toArray (List.replicate k its.toArray) = (acc ++ (List.replicate k its).flatten).toArray
  | 0, acc => by simp
  | k + 1, acc => by
    have e : acc.toArray ++ its.toArray = (acc ++ its).toArray := by simp
    have e2 : (acc ++ its) ++ (List.replicate k its).flatten = acc ++ (List.replicate (k + 1) its).flatten := by
      rw [List.replicate_succ, List.flatten_cons, List.append_assoc]
    rw [← e2, ← foldl_rep its k (acc ++ its), ← e, List.replicate_succ, List.foldl_cons]
section
variable {X : Cx} {pins : List (Addr × Obj)} {σ : St} {H : Hp} {s : Shared} {l b : Addr} {xs ys zs : List V}
theorem Inv.lset {its its' : List Value} {n : Nat} {f : Array Value → Array Value} {t' : Nat} (I : Inv X pins σ H s) (hH : H l = some (.lst xs))
    (e : s.heap.get? l = some { cls := .type "list", data := .seq its.toArray n }) (hf : f its.toArray = its'.toArray) (hv : Vals ys its') (hz : ys.length ≤ sizeLine) :
    Inv X pins σ (upd H l (.lst ys)) { s with heap := s.heap.update l (Obj.mapSeq f), toks := t' } := by
  have q := PySem.IsL.update e f
  rw [hf] at q
  refine I.write (x := l) (e := l) (by rw [hH]; exact trivial) (.inl rfl) (fun b' u hb hu => (Heap.get?_update_other s.heap (Obj.mapSeq f) (Ne.symm hb)).trans hu) ⟨_, q⟩ ?_
  exact ⟨hz, its', _, hv, q⟩
theorem Inv.lnew {its : List Value} {t' : Nat} (I : Inv X pins σ H s) (hv : Vals ys its) (hz : ys.length ≤ sizeLine) :
    Inv X pins σ (upd H s.heap.objs.size (.lst ys)) { s with heap := s.heap.push { cls := .type "list", data := .seq its.toArray }, toks := t' } :=
  I.laid (fun _ _ q => Heap.get?_push_of_some _ q) (Nat.le_refl _) ⟨hz, its, 0, hv, Heap.get?_push_size _ rfl⟩
theorem Inv.fresh (I : Inv X pins σ H s) : H s.heap.objs.size = none := I.hok.fresh (Nat.le_refl _)
theorem Inv.lstM (I : Inv X pins σ H s) (hH : H l = some (.lst xs)) : xs.length ≤ sizeLine ∧ ∃ (its : List Value) (n : Nat), Vals xs its ∧ xs.length = its.length ∧ s.heap.get? l = some { cls := .type "list", data := .seq its.toArray n } := by
  obtain ⟨z, its, n, r, e⟩ := I.hok l _ hH
  exact ⟨z, its, n, r, r.length, e⟩
theorem notLongL {n : Nat} (h : n ≤ sizeLine) : Builtin.List.listTooLong n = false := by
  unfold Builtin.List.listTooLong
  exact decide_eq_false (by omega)
end
section
variable {X : Cx}
def rAppend : V → List V → Hp → VK → Prop := fun x vs H Q => ∃ l xs y, x = .ref l ∧ vs = [y] ∧ H l = some (.lst xs) ∧ xs.length < sizeLine ∧ Q .non (upd H l (.lst (xs ++ [y])))
theorem mt_append : MtM X "list.append" rAppend := by
  intro pins s σ H x vs v us Q I rx rv h
  obtain ⟨l, xs, y, rfl, rfl, hH, hz, q⟩ := h
  cases rx
  obtain ⟨u, rfl, ru⟩ := rv.one
  obtain ⟨z, its, n, r, hl, e⟩ := I.lstM hH
  refine call_meets F.slot_list_append ⟨_, e, rfl⟩ F.entry_list_append (F.args_list_append_2 _ _) (PySem.list_append l its.toArray n u (by rw [List.size_toArray]; omega)) ⟨e, ?_⟩
  refine ⟨.non, _, I.lset (its' := its ++ [u]) hH e (by simp) (r.append (.cons ru .nil)) ?_, rfl, q⟩
  rw [List.length_append, List.length_singleton]
  omega
def rExtend : V → List V → Hp → VK → Prop := fun x vs H Q => ∃ l b xs zs, x = .ref l ∧ vs = [.ref b] ∧ H l = some (.lst xs) ∧ H b = some (.lst zs) ∧ xs.length + zs.length ≤ sizeLine ∧ Q .non (upd H l (.lst (xs ++ zs)))
theorem mt_extend : MtM X "list.extend" rExtend := by
  intro pins s σ H x vs v us Q I rx rv h
  obtain ⟨l, b, xs, zs, rfl, rfl, hH, hB, hz, q⟩ := h
  cases rx
  obtain ⟨u, rfl, ru⟩ := rv.one
  cases ru
  obtain ⟨z, its, n, r, hl, e⟩ := I.lstM hH
  obtain ⟨z2, its2, n2, r2, hl2, e2⟩ := I.lstM hB
  have hsz : its.toArray.size + its2.toArray.size ≤ sizeLine := by rw [List.size_toArray, List.size_toArray]; omega
  have hlong : ¬ (!its.toArray.isEmpty && Builtin.List.listTooLong (its.toArray.size + its2.toArray.size)) = true := by
    rw [notLongL hsz, Bool.and_false]
    exact Bool.false_ne_true
  refine call_meets F.slot_list_extend ⟨_, e, rfl⟩ F.entry_list_extend (F.args_list_extend_2 _ _)
    (AutoSeq1.list_extend_list_list_0 l its.toArray n b its2.toArray n2 hlong (by rw [List.size_toArray]; omega) (by omega)) ⟨e, e2, ?_⟩
  refine ⟨.non, _, I.lset (its' := its ++ its2) hH e (by simp) (r.append r2) ?_, rfl, q⟩
  rw [List.length_append]
  omega
def rCat : R2 := fun x y H Q => ∃ l b xs zs, x = .ref l ∧ y = .ref b ∧ H l = some (.lst xs) ∧ H b = some (.lst zs) ∧ xs.length + zs.length ≤ sizeLine ∧ ∀ p, H p = none → Q (.ref p) (upd H p (.lst (xs ++ zs)))
theorem op_cat : OpR X (binaryOp .Add) rCat := by
  intro pins s σ H x y v u Q I rx ry h
  obtain ⟨l, b, xs, zs, rfl, rfl, hH, hB, hz, q⟩ := h
  cases rx
  cases ry
  obtain ⟨z, its, n, r, hl, e⟩ := I.lstM hH
  obtain ⟨z2, its2, n2, r2, hl2, e2⟩ := I.lstM hB
  refine PySem.P.add_list e e2 ?_ (by rw [List.size_toArray, List.size_toArray]; omega)
  have ea : its.toArray ++ its2.toArray = (its ++ its2).toArray := by simp
  rw [ea]
  exact ⟨.ref _, _, I.lnew (t' := s.toks) (r.append r2) (by rw [List.length_append]; omega), rfl, q _ I.fresh⟩
/-- a list times an int (a negative one is nothing) -/
def rRep : R2 := fun x y H Q => ∃ l k xs, x = .ref l ∧ y = .int k ∧ H l = some (.lst xs) ∧ -(2 ^ 63) ≤ k ∧ k < 2 ^ 63 ∧ xs.length * k.toNat ≤ sizeLine ∧
  ∀ p, H p = none → Q (.ref p) (upd H p (.lst (List.replicate k.toNat xs).flatten))
theorem len_rep {α : Type} (xs : List α) (k : Nat) : (List.replicate k xs).flatten.length = k * xs.length := by
  induction k with
  | zero => simp
  | succ k ih => rw [List.replicate_succ, List.flatten_cons, List.length_append, ih, Nat.succ_mul, Nat.add_comm]
theorem op_rep : OpR X (binaryOp .Mult) rRep := by
  intro pins s σ H x y v u Q I rx ry h
  obtain ⟨l, k, xs, rfl, rfl, hH, h1, h2, hz, q⟩ := h
  cases rx
  obtain ⟨t, rfl⟩ := ry
  obtain ⟨z, its, n, r, hl, e⟩ := I.lstM hH
  have hlen : its.toArray.size * k.toNat ≤ sizeLine := by rw [List.size_toArray, ← hl]; exact hz
  have hcap : ¬ its.toArray.size * k.toNat > (2 ^ 63 - 1) / 8 := by
    have : (sizeLine : Nat) ≤ (2 ^ 63 - 1) / 8 := by decide
    omega
  have hfit : ¬ (!Builtin.List.listFitsIndex k) = true := by
    rw [fitsIndex_both h1 h2]
    exact Bool.false_ne_true
  have hlong : ¬ Builtin.List.listTooLong (its.toArray.size * k.toNat) = true := by
    rw [notLongL hlen]
    exact Bool.false_ne_true
  have hnew : List.foldl (fun x1 x2 => x1 ++ x2) #[] (List.replicate (if its.toArray.isEmpty = true then 0 else k.toNat) its.toArray) = (List.replicate k.toNat its).flatten.toArray := by
    have f0 : ∀ m : Nat, List.foldl (fun x1 x2 => x1 ++ x2) #[] (List.replicate m its.toArray) = (List.replicate m its).flatten.toArray := fun m => by
      have := foldl_rep its m []
      rw [List.nil_append] at this
      exact this
    rw [f0]
    cases its with
    | nil => simp
    | cons a r' => rw [if_neg (by simp)]
  refine wpAny_binaryOp_repeat_ref (T := "list") (U := "int") (by decide) ⟨_, e, rfl⟩ (fun s' => typeIs_int s' k t) noFill_list_mul F.fills_int_mul F.slot_int_rmul repeat_list F.slot_int_index.lookup
    (call_meets F.slot_int_rmul (typeIs_int s k t) F.entry_int_rmul (F.args_int_rmul_2 _ _) (int___rmul___int_list k t l its.toArray n)
      ⟨e, rfl, ⟨_, e, rfl⟩, call_meets F.slot_list_mul ⟨_, e, rfl⟩ F.entry_list_mul (F.args_list_mul_2 _ _) (AutoListH.list___mul___list_int_3 l its.toArray n k t hfit hcap hlong) ⟨e, ?_⟩⟩)
  rw [hnew]
  exact ⟨.ref _, _, I.lnew (t' := s.toks) (r.rep k.toNat) (by rw [len_rep, Nat.mul_comm]; exact hz), rfl, q _ I.fresh⟩
end
section
variable {prog : Program} {w : World} {A : Around} {E : Value → Shared → Prop} {s : Shared}
set_option maxRecDepth 100000 in
end
section
variable {X : Cx}
end
end L2
namespace L2
open PySem PySem.Spec PyProof.Rows
theorem Vals.ints : ∀ {ns : List Int} {us : List Value}, Vals (ns.map V.int) us → IntsAre us ns
  | [], us, h => by
    rw [List.map_nil] at h
    cases h
    exact IntsAre.nil
  | n :: ns, us, h => by
    rw [List.map_cons] at h
    cases h with
    | cons r t =>
      obtain ⟨k, rfl⟩ := r
      exact IntsAre.cons n k (Vals.ints t)
theorem Vals.bls : ∀ {bs : List Bool} {us : List Value}, Vals (bs.map V.bl) us → us = bs.map Value.bool
  | [], us, h => by
    rw [List.map_nil] at h
    cases h
    rfl
  | b :: bs, us, h => by
    rw [List.map_cons] at h
    cases h with
    | cons r t =>
      cases r
      rw [Vals.bls t, List.map_cons]
theorem Vals.ref1 {a : Addr} {us : List Value} (r : Vals [V.ref a] us) : us = [Value.ref a] := by
  cases r with
  | cons r t =>
    cases t
    cases r
    rfl
section
variable {prog : Program} {w : World} {A : Around} {E : Value → Shared → Prop} {s : Shared} {l : Addr} {its : List Value} {ns : List Int} {Q : Value → Shared → Prop}
theorem sum_raw (hh : A.handled = none) (hl : s.heap.IsList l its.toArray) (hi : IntsAre its ns)
    (h : ∀ h' tk t', (∀ b o, s.heap.get? b = some o → h'.get? b = some o) → Q (.int ns.sum t') { s with heap := h', toks := tk }) : wpAny (model prog w) A (call (.builtin "sum") [.ref l]) Q E s := by
  obtain ⟨xs, e⟩ := hi.allInts.items
  have hn : numsOf (intItems xs).toList = ns := by rw [← e]; exact hi.numsOf
  rw [nums_intItems] at hn
  rw [e] at hl
  refine PySem.sum_intListG hh hl fun h' tk t' hk => ?_
  have := h h' tk t' hk
  rw [preSum_eq, List.take_of_length_le (by simp), hn]; exact this
theorem max_raw (hh : A.handled = none) (hl : s.heap.IsList l its.toArray) (hi : IntsAre its ns) (hne : 0 < ns.length)
    (h : ∀ h' tk M t', (∀ b o, s.heap.get? b = some o → h'.get? b = some o) → M ∈ ns → (∀ a, a ∈ ns → a ≤ M) → Q (.int M t') { s with heap := h', toks := tk }) : wpAny (model prog w) A (call (.builtin "max") [.ref l]) Q E s := by
  obtain ⟨xs, e⟩ := hi.allInts.items
  have hn : numsOf (intItems xs).toList = ns := by rw [← e]; exact hi.numsOf
  rw [nums_intItems] at hn
  subst hn
  rw [e] at hl
  have hsz : 0 < xs.size := by simpa using hne
  refine PySem.max_intList hh hl hsz fun v h' tk hv hk => ?_
  obtain ⟨t, rfl⟩ := intItems_at hv
  obtain ⟨h1, h2⟩ := argBest_gt (numAt xs) (xs.size - 1)
  refine h h' tk _ t hk ?_ fun a ha => ?_
  · rw [numAt_eq]; exact PySem.getD_mem (by rw [List.length_map, Array.length_toList]; omega)
  · obtain ⟨j, hj, rfl⟩ := mem_getD ha
    rw [List.length_map, Array.length_toList] at hj
    rw [← numAt_eq]; exact h2 j (by omega)
theorem min_raw (hh : A.handled = none) (hl : s.heap.IsList l its.toArray) (hi : IntsAre its ns) (hne : 0 < ns.length)
    (h : ∀ h' tk M t', (∀ b o, s.heap.get? b = some o → h'.get? b = some o) → M ∈ ns → (∀ a, a ∈ ns → M ≤ a) → Q (.int M t') { s with heap := h', toks := tk }) : wpAny (model prog w) A (call (.builtin "min") [.ref l]) Q E s := by
  obtain ⟨xs, e⟩ := hi.allInts.items
  have hn : numsOf (intItems xs).toList = ns := by rw [← e]; exact hi.numsOf
  rw [nums_intItems] at hn
  subst hn
  rw [e] at hl
  have hsz : 0 < xs.size := by simpa using hne
  refine PySem.min_intList hh hl hsz fun v h' tk hv hk => ?_
  obtain ⟨t, rfl⟩ := intItems_at hv
  obtain ⟨h1, h2⟩ := argBest_lt (numAt xs) (xs.size - 1)
  refine h h' tk _ t hk ?_ fun a ha => ?_
  · rw [numAt_eq]; exact PySem.getD_mem (by rw [List.length_map, Array.length_toList]; omega)
  · obtain ⟨j, hj, rfl⟩ := mem_getD ha
    rw [List.length_map, Array.length_toList] at hj
    rw [← numAt_eq]; exact h2 j (by omega)
end
section
variable {X : Cx}
/-- sum(xs) of a list of ints -/
def rSum (K : PySem.W.Frag) : List V → Hp → VK → Prop := fun vs H Q => ∃ (a : Addr) (ns : List Int), vs = [V.ref a] ∧ SqL K H a (ns.map V.int) ∧ Q (.int ns.sum) H
/-- max(xs), min(xs) of a list of ints -/
def rMax (K : PySem.W.Frag) : List V → Hp → VK → Prop := fun vs H Q => ∃ (a : Addr) (ns : List Int), vs = [V.ref a] ∧ SqL K H a (ns.map V.int) ∧ 0 < ns.length ∧ ∀ m, m ∈ ns → (∀ y, y ∈ ns → y ≤ m) → Q (.int m) H
def rMin (K : PySem.W.Frag) : List V → Hp → VK → Prop := fun vs H Q => ∃ (a : Addr) (ns : List Int), vs = [V.ref a] ∧ SqL K H a (ns.map V.int) ∧ 0 < ns.length ∧ ∀ m, m ∈ ns → (∀ y, y ∈ ns → m ≤ y) → Q (.int m) H
theorem cr_sum (hc : X.calm = true) : CallR X (.builtin "sum") (rSum X.K) := by
  intro pins s σ H vs us Q I r h
  obtain ⟨a, ns, rfl, hs, q⟩ := h
  obtain ⟨its, rv, hl, _⟩ := I.list hs
  rw [Vals.ref1 r]
  exact sum_raw (I.ok.hd hc) hl.isList rv.ints fun h' tk t' hk => ⟨.int _, H, I.kept hk, ⟨_, rfl⟩, q⟩
theorem cr_max (hc : X.calm = true) : CallR X (.builtin "max") (rMax X.K) := by
  intro pins s σ H vs us Q I r h
  obtain ⟨a, ns, rfl, hs, hne, q⟩ := h
  obtain ⟨its, rv, hl, _⟩ := I.list hs
  rw [Vals.ref1 r]
  exact max_raw (I.ok.hd hc) hl.isList rv.ints hne fun h' tk m t' hk h1 h2 => ⟨.int _, H, I.kept hk, ⟨_, rfl⟩, q m h1 h2⟩
theorem cr_min (hc : X.calm = true) : CallR X (.builtin "min") (rMin X.K) := by
  intro pins s σ H vs us Q I r h
  obtain ⟨a, ns, rfl, hs, hne, q⟩ := h
  obtain ⟨its, rv, hl, _⟩ := I.list hs
  rw [Vals.ref1 r]
  exact min_raw (I.ok.hd hc) hl.isList rv.ints hne fun h' tk m t' hk h1 h2 => ⟨.int _, H, I.kept hk, ⟨_, rfl⟩, q m h1 h2⟩
end
section
variable {X : Cx}
end
section
variable {X : Cx}
end
theorem iter_any {prog : Program} {w : World} {A : Around} {E : Value → Shared → Prop} {s : Shared} {l : Addr} {items : Array Value} {Q : Value → Shared → Prop} (hl : s.heap.IsList l items)
    (h : ∀ s₂ : Shared, s₂ = { s with heap := s.heap.push { cls := .type "list_iterator", data := .fields #[.ref l, .int 0 0] } } →
      (s₂.heap.IsListIter s.heap.objs.size l 0 ∧ s₂.heap.IsList l items) → l ≠ s.heap.objs.size → Q (.ref s.heap.objs.size) s₂) : wpAny (model prog w) A (pyIter (.ref l)) Q E s := by
  have hlt : l < s.heap.objs.size := by obtain ⟨_, e, _⟩ := hl; exact Heap.lt_size e
  exact wpAny_pyIter_list hl (h _ rfl ⟨⟨_, Heap.get?_push_size _ rfl, rfl, rfl⟩, hl.push _⟩ (Nat.ne_of_lt hlt))
theorem truth_bools {prog : Program} {w : World} {A : Around} {bs : List Bool} {its : List Value} (e : its = bs.map Value.bool) :
    TruthOf prog w A (fun i v => its.toArray[i]? = some v) (fun i => bs.getD i false) := fun i v s Q E hv hq => by
  have hv' : its[i]? = some v := by simpa using hv
  rw [e, List.getElem?_map] at hv'
  obtain ⟨b, hb, rfl⟩ := Option.map_eq_some_iff.mp hv'
  have hg : bs.getD i false = b := by rw [List.getD_eq_getElem?_getD, hb] <;> rfl
  have hq' : Q (bs.getD i false) s := hq
  rw [hg] at hq'
  exact wpAny_truthy_bool hq'
theorem any_range : ∀ bs : List Bool, (List.range bs.length).any (fun i => bs.getD i false) = bs.any id
  | [] => rfl
  | b :: bs => by
    rw [List.length_cons, List.range_succ_eq_map, List.any_cons, List.any_map, List.any_cons, ← any_range bs]
    all_goals rfl
theorem all_range : ∀ bs : List Bool, (List.range bs.length).all (fun i => bs.getD i false) = bs.all id
  | [] => rfl
  | b :: bs => by
    rw [List.length_cons, List.range_succ_eq_map, List.all_cons, List.all_map, List.all_cons, ← all_range bs]
    all_goals rfl
section
variable {X : Cx}
def rAny (K : PySem.W.Frag) : List V → Hp → VK → Prop := fun vs H Q => ∃ (a : Addr) (bs : List Bool), vs = [V.ref a] ∧ SqL K H a (bs.map V.bl) ∧ Q (.bl (bs.any id)) H
def rAll (K : PySem.W.Frag) : List V → Hp → VK → Prop := fun vs H Q => ∃ (a : Addr) (bs : List Bool), vs = [V.ref a] ∧ SqL K H a (bs.map V.bl) ∧ Q (.bl (bs.all id)) H
theorem cr_any (hc : X.calm = true) : CallR X (.builtin "any") (rAny X.K) := by
  intro pins s σ H vs us Q I r h
  obtain ⟨a, bs, rfl, hs, q⟩ := h
  obtain ⟨its, rv, hl, _⟩ := I.list hs
  rw [Vals.ref1 r]
  have hb := rv.bls
  refine call_any_walk (iter_any hl.isList fun s₂ e2 st hne => ?_)
  subst e2
  refine ⟨_, _, _, _, _, _, _, rfl, Walks.list (A := X.A.in1) (I.ok.hd hc) _ a hne its.toArray, st, truth_bools hb, fun h' tk hk => ?_⟩
  refine ⟨.bl _, H, I.kept fun b o eo => hk b o (fun hmem => ?_) (Heap.get?_push_of_some _ eo), ?_, q⟩
  · rcases List.mem_cons.mp hmem with e1 | hmem
    · exact absurd (e1 ▸ Heap.lt_size eo) (Nat.lt_irrefl _)
    · cases hmem
  · show Value.bool _ = Value.bool _
    rw [← any_range, hb, List.size_toArray, List.length_map]
theorem cr_all (hc : X.calm = true) : CallR X (.builtin "all") (rAll X.K) := by
  intro pins s σ H vs us Q I r h
  obtain ⟨a, bs, rfl, hs, q⟩ := h
  obtain ⟨its, rv, hl, _⟩ := I.list hs
  rw [Vals.ref1 r]
  have hb := rv.bls
  refine call_all_walk (iter_any hl.isList fun s₂ e2 st hne => ?_)
  subst e2
  refine ⟨_, _, _, _, _, _, _, rfl, Walks.list (A := X.A.in1) (I.ok.hd hc) _ a hne its.toArray, st, truth_bools hb, fun h' tk hk => ?_⟩
  refine ⟨.bl _, H, I.kept fun b o eo => hk b o (fun hmem => ?_) (Heap.get?_push_of_some _ eo), ?_, q⟩
  · rcases List.mem_cons.mp hmem with e1 | hmem
    · exact absurd (e1 ▸ Heap.lt_size eo) (Nat.lt_irrefl _)
    · cases hmem
  · show Value.bool _ = Value.bool _
    rw [← all_range, hb, List.size_toArray, List.length_map]
end
section
variable {X : Cx} {pins : List (Addr × Obj)} {σ : St} {H : Hp} {s : Shared}
end
section
variable {X : Cx}
end
end L2
namespace L2
open PySem PySem.Spec PyProof.Rows
abbrev CellAt (h : Heap) (c : Addr) (v : Option Value) : Prop := h.IsCell c v
def relS (scope sc : Scope) : Scope :=
  { scope with names := scope.names.map fun (n, k) => if (k == .free && sc.kind == .function && sc.names.lookup n == some .cell) then (n, .cell) else (n, k) }
def cloFrom (cells : List (Str × Addr)) : List (Str × NameKind) → List (Str × Addr) → List (Str × Addr)
  | [], acc => acc
  | (n, k) :: r, acc => if k == .free then cloFrom cells r ((n, (cells.lookup n).getD 0) :: acc) else cloFrom cells r acc
theorem closure_loop (env : Env) (f : Str × NameKind → List (Str × Addr) → Sem (ForInStep (List (Str × Addr))))
    (hf : ∀ n k c, f (n, k) c = if k == .free then (do let a ← cellOf env n; pure (.yield ((n, a) :: c))) else pure (.yield c)) :
    ∀ (names : List (Str × NameKind)) (acc : List (Str × Addr)), (∀ y ∈ names, y.2 = .free → ∃ c, env.cells.lookup y.1 = some c) → forIn names acc f = pure (cloFrom env.cells names acc)
  | [], acc, _ => by rw [List.forIn_nil]; rfl
  | (n, k) :: r, acc, h => by
    rw [List.forIn_cons, hf]
    have ih := fun acc => closure_loop env f hf r acc fun y hy => h y (List.mem_cons_of_mem _ hy)
    unfold cloFrom
    by_cases hk : (k == NameKind.free) = true
    · rw [if_pos hk, if_pos hk]
      obtain ⟨c, hc⟩ := h (n, k) List.mem_cons_self (by simpa using hk)
      have e : cellOf env n = pure c := by unfold cellOf; rw [hc]
      rw [e]
      have e2 : (env.cells.lookup n).getD 0 = c := by rw [hc]; rfl
      rw [e2]
      exact ih _
    · rw [if_neg hk, if_neg hk]
      exact ih _
theorem closure_ok {scope : Scope} {env : Env} (h : ∀ y ∈ scope.names, y.2 = .free → ∃ c, env.cells.lookup y.1 = some c) : closureFor scope env = pure (cloFrom env.cells scope.names []) := by
  simp only [closureFor]
  rw [closure_loop env _ (fun n k c => rfl) scope.names [] h]
  rfl
theorem mem_lookup {α : Type} : ∀ {l : List (Str × α)} {n : Str} {c : α}, (n, c) ∈ l → ∃ c', l.lookup n = some c'
  | (k, v) :: r, n, c, h => by
    rw [List.lookup_cons]
    cases hb : n == k with
    | true => exact ⟨_, rfl⟩
    | false =>
      rcases List.mem_cons.mp h with e | h
      · cases e; simp at hb
      · exact mem_lookup h
theorem cloFrom_mem {cells : List (Str × Addr)} : ∀ {names : List (Str × NameKind)} {acc : List (Str × Addr)} {n : Str} {c : Addr}, (n, c) ∈ cloFrom cells names acc → (n, c) ∈ acc ∨ ((n, .free) ∈ names ∧ c = (cells.lookup n).getD 0)
  | [], _, _, _, h => .inl h
  | (m, k) :: r, acc, n, c, h => by
    unfold cloFrom at h
    split at h
    · rename_i hk
      have hk : k = .free := by simpa using hk
      rcases cloFrom_mem h with h | ⟨h1, h2⟩
      · rcases List.mem_cons.mp h with e | h
        · cases e; exact .inr ⟨hk ▸ List.mem_cons_self, rfl⟩
        · exact .inl h
      · exact .inr ⟨List.mem_cons_of_mem _ h1, h2⟩
    · rcases cloFrom_mem h with h | ⟨h1, h2⟩
      · exact .inl h
      · exact .inr ⟨List.mem_cons_of_mem _ h1, h2⟩
theorem cloFrom_acc {cells : List (Str × Addr)} : ∀ {names : List (Str × NameKind)} {acc : List (Str × Addr)} {p : Str × Addr}, p ∈ acc → p ∈ cloFrom cells names acc
  | [], _, _, h => h
  | (m, k) :: r, acc, p, h => by
    unfold cloFrom
    split
    · exact cloFrom_acc (List.mem_cons_of_mem _ h)
    · exact cloFrom_acc h
theorem cloFrom_has {cells : List (Str × Addr)} : ∀ {names : List (Str × NameKind)} {acc : List (Str × Addr)} {n : Str}, (n, .free) ∈ names → (n, (cells.lookup n).getD 0) ∈ cloFrom cells names acc
  | (m, k) :: r, acc, n, h => by
    unfold cloFrom
    rcases List.mem_cons.mp h with e | h
    · cases e
      exact cloFrom_acc List.mem_cons_self
    · split
      · exact cloFrom_has h
      · exact cloFrom_has h
theorem cells_mem : ∀ {names : List (Str × NameKind)} {h : Heap} {acc : List (Str × Addr)} {x : Str} {c : Addr}, (x, c) ∈ cellsFrom h.objs.size names acc →
    (x, c) ∈ acc ∨ ((x, .cell) ∈ names ∧ h.objs.size ≤ c ∧ CellAt (pushCells h names) c none)
  | [], _, _, _, _, h => .inl h
  | (n, k) :: r, h, acc, x, c, hm => by
    unfold cellsFrom at hm
    unfold pushCells
    split at hm
    · rename_i hk
      rw [if_pos hk]
      have hk : k = .cell := by simpa using hk
      rw [← Heap.size_push h { cls := .type "cell", data := .cell none }] at hm
      rcases cells_mem hm with hm | ⟨h1, h2, h3⟩
      · rcases List.mem_cons.mp hm with e | hm
        · cases e
          exact .inr ⟨hk ▸ List.mem_cons_self, Nat.le_refl _, _, pushCells_keeps r _ _ _ (Heap.get?_push_size _ rfl), rfl⟩
        · exact .inl hm
      · rw [Heap.size_push] at h2
        exact .inr ⟨List.mem_cons_of_mem _ h1, Nat.le_of_succ_le h2, h3⟩
    · rename_i hk
      rw [if_neg hk]
      rcases cells_mem hm with hm | ⟨h1, h2, h3⟩
      · exact .inl hm
      · exact .inr ⟨List.mem_cons_of_mem _ h1, h2, h3⟩
theorem cells_acc : ∀ {names : List (Str × NameKind)} {n : Nat} {acc : List (Str × Addr)} {p : Str × Addr}, p ∈ acc → p ∈ cellsFrom n names acc
  | [], _, _, _, h => h
  | (m, k) :: r, n, acc, p, h => by
    unfold cellsFrom
    split
    · exact cells_acc (List.mem_cons_of_mem _ h)
    · exact cells_acc h
theorem cells_has : ∀ {names : List (Str × NameKind)} {n : Nat} {acc : List (Str × Addr)} {x : Str}, (x, .cell) ∈ names → ∃ c, (x, c) ∈ cellsFrom n names acc
  | (m, k) :: r, n, acc, x, h => by
    unfold cellsFrom
    rcases List.mem_cons.mp h with e | h
    · cases e
      exact ⟨n, cells_acc List.mem_cons_self⟩
    · split
      · exact cells_has h
      · exact cells_has h
theorem cells_inj : ∀ {names : List (Str × NameKind)} {h : Heap} {acc : List (Str × Addr)} {x y : Str} {c : Addr}, (∀ p ∈ acc, p.2 < h.objs.size) → (∀ x y c, (x, c) ∈ acc → (y, c) ∈ acc → x = y) →
    (x, c) ∈ cellsFrom h.objs.size names acc → (y, c) ∈ cellsFrom h.objs.size names acc → x = y
  | [], _, _, _, _, _, _, hi, h1, h2 => hi _ _ _ h1 h2
  | (n, k) :: r, h, acc, x, y, c, hl, hi, h1, h2 => by
    unfold cellsFrom at h1 h2
    split at h1
    · rename_i hk
      rw [if_pos hk] at h2
      rw [← Heap.size_push h { cls := .type "cell", data := .cell none }] at h1 h2
      refine cells_inj (h := h.push _) (fun p hp => ?_) (fun x y c a b => ?_) h1 h2
      · rw [Heap.size_push]
        rcases List.mem_cons.mp hp with rfl | hp
        · exact Nat.lt_succ_self _
        · exact Nat.lt_succ_of_lt (hl p hp)
      · rcases List.mem_cons.mp a with e | a <;> rcases List.mem_cons.mp b with e' | b
        · cases e; cases e'; rfl
        · cases e; exact absurd (hl _ b) (Nat.lt_irrefl _)
        · cases e'; exact absurd (hl _ a) (Nat.lt_irrefl _)
        · exact hi _ _ _ a b
    · rename_i hk
      rw [if_neg hk] at h2
      exact cells_inj hl hi h1 h2
theorem newEnv_comp {M : Model} {A : Around} {E : Value → Shared → Prop} {s : Shared} {scope : Scope} {globals : Addr} {closure : List (Str × Addr)} {qual : Str} {func : Option Addr} {code : Value} {around : Env} {builtins : Addr} {Q : Env → Shared → Prop}
    (h : Q (newEnv scope s.heap.objs.size globals (cellsFrom (s.heap.objs.size + 1) scope.names closure) qual func code (some around) builtins)
      { s with heap := pushCells (s.heap.push { cls := .type "dict", data := .dict #[] }) scope.names }) :
    wpAny M A (newFunctionEnv scope globals closure [] qual func code (some around) builtins) Q E s := by
  simp only [newFunctionEnv, Option.isSome_some, if_true]
  refine wpAny_bind (wpAny_alloc ?_)
  refine wpAny_bind (wpAny_layCells _ (fun n k c => rfl) scope.names closure _ _ ?_)
  rw [show ({ s with heap := s.heap.push { cls := .type "dict", data := .dict #[] } } : Shared).heap.objs.size = s.heap.objs.size + 1 from Heap.size_push ..]
  rw [List.forIn_nil]
  exact wpAny_bind (wpAny_pure (wpAny_pure h))
/-- every name of the written scope, in the scope that runs -/
theorem lookup_relS {sc : Scope} : ∀ {names : List (Str × NameKind)} {x : Str} {k : NameKind},
    (names.map fun (n, k) => if (k == NameKind.free && sc.kind == .function && sc.names.lookup n == some .cell) then (n, NameKind.cell) else (n, k)).lookup x = some k →
    ∃ k', names.lookup x = some k' ∧ (k = k' ∨ (k' = .free ∧ k = .cell))
  | [], _, _, h => by simp at h
  | (n, k₀) :: r, x, k, h => by
    have ih := @lookup_relS sc r x k
    have h' : List.lookup x ((if (k₀ == NameKind.free && sc.kind == .function && sc.names.lookup n == some .cell) = true then (n, NameKind.cell) else (n, k₀)) :: (r.map _)) = some k := h
    cases hx : x == n with
    | true =>
      simp only [List.lookup_cons, hx]
      by_cases hc : (k₀ == NameKind.free && sc.kind == .function && sc.names.lookup n == some .cell) = true
      · rw [if_pos hc] at h'
        simp only [List.lookup_cons, hx] at h'
        cases h'
        simp only [Bool.and_eq_true, beq_iff_eq] at hc
        exact ⟨k₀, rfl, .inr ⟨hc.1.1, rfl⟩⟩
      · rw [if_neg hc] at h'
        simp only [List.lookup_cons, hx] at h'
        cases h'
        exact ⟨_, rfl, .inl rfl⟩
    | false =>
      simp only [List.lookup_cons, hx]
      by_cases hc : (k₀ == NameKind.free && sc.kind == .function && sc.names.lookup n == some .cell) = true
      · rw [if_pos hc] at h'
        simp only [List.lookup_cons, hx] at h'
        exact ih h'
      · rw [if_neg hc] at h'
        simp only [List.lookup_cons, hx] at h'
        exact ih h'
/-- the names of a comprehension's block: its own (with their places in N), or captured -/
structure BlkOk (N : List Str) (sc scope : Scope) (own : List (Str × Nat)) : Prop where
  kind : scope.kind = .function
  uniq : ∀ y ∈ scope.names, scope.names.lookup y.1 = some y.2
  ix : ∀ p ∈ own, N[p.2]? = some p.1
  free : ∀ y ∈ scope.names, y.2 = .free → sc.names.lookup y.1 = some .cell ∨ sc.names.lookup y.1 = some .free
  own : ∀ y ∈ scope.names, y.2 = .local ∨ y.2 = .cell → y.1 ∈ own.map (·.1) ∨ y.1 ∉ N
/-- the slots of the block's own names forgotten -/
def wipe (σ : St) : List Nat → St
  | [] => σ
  | v :: vs => (wipe σ vs).set v none
theorem wipe_length (σ : St) : ∀ vs : List Nat, (wipe σ vs).length = σ.length
  | [] => rfl
  | v :: vs => by unfold wipe; rw [List.length_set, wipe_length σ vs]
theorem wipe_some {σ : St} {i : Nat} {x : V} : ∀ {vs : List Nat}, (wipe σ vs)[i]? = some (some x) → σ[i]? = some (some x) ∧ i ∉ vs
  | [], h => ⟨h, by simp⟩
  | v :: vs, h => by
    unfold wipe at h
    by_cases hi : v = i
    · subst hi
      by_cases hv : v < (wipe σ vs).length
      · rw [List.getElem?_set_self hv] at h; cases h
      · rw [List.getElem?_eq_none (by simpa using hv)] at h; cases h
    · rw [List.getElem?_set_ne hi] at h
      obtain ⟨h1, h2⟩ := wipe_some h
      exact ⟨h1, by simp only [List.mem_cons, not_or]; exact ⟨fun e => hi e.symm, h2⟩⟩
/-- the context of a block that starts at s, its iterator's objects at fp -/
abbrev Cx.blk (X : Cx) (s : Shared) (H : Hp) (scope : Scope) (cenv : Env) (fp : List Addr) : Cx := { X with s_0 := s, H_0 := H, env := cenv, outer := X.stack, ex := fp, fn := fun x => scope.names.lookup x == some .cell, pn := [], xe := fun _ _ => False }
section
variable {X : Cx} {pins : List (Addr × Obj)} {σ : St} {H : Hp} {s : Shared}
theorem block_start {scope : Scope} {own : List (Str × Nat)} {fp : List Addr} (I : Inv X pins σ H s) (ok : BlkOk X.N X.env.scope scope own) (hN : X.N.Nodup) (hfp : ∀ b ∈ fp, FpOk X pins H b ∧ b < s.heap.objs.size) :
    Inv (X.blk s H scope (compEnvC scope (cellsFrom (s.heap.objs.size + 1) scope.names (cloFrom X.env.cells scope.names [])) s.heap.objs.size X.env) fp) [] (wipe σ (own.map (·.2))) H { s with heap := pushCells (s.heap.push { cls := .type "dict", data := .dict #[] }) scope.names } := by
  have hfree : ∀ y ∈ scope.names, y.2 = .free → ∃ c, X.env.cells.lookup y.1 = some c := fun y hy e => by
    rcases ok.free y hy e with k | k
    · exact I.ok.has _ (.inl k)
    · exact I.ok.has _ (.inr k)
  generalize hcenv : compEnvC scope (cellsFrom (s.heap.objs.size + 1) scope.names (cloFrom X.env.cells scope.names [])) s.heap.objs.size X.env = cenv
  have kp : ∀ b o, s.heap.get? b = some o → (pushCells (s.heap.push { cls := .type "dict", data := .dict #[] }) scope.names).get? b = some o := fun b o e => pushCells_keeps _ _ _ _ (Heap.get?_push_of_some _ e)
  have hL : cenv.locals = s.heap.objs.size := by rw [← hcenv]; rfl
  have hcl : cenv.cells = cellsFrom (s.heap.objs.size + 1) scope.names (cloFrom X.env.cells scope.names []) := by rw [← hcenv]; rfl
  have hsc : cenv.scope = relS scope X.env.scope := by rw [← hcenv]; rfl
  rw [← Heap.size_push s.heap { cls := .type "dict", data := .dict #[] }] at hcl
  have cm : ∀ {y c}, (y, c) ∈ cloFrom X.env.cells scope.names [] → X.env.cells.lookup y = some c ∧ c < s.heap.objs.size := fun {y c} hm => by
    rcases cloFrom_mem hm with hm | ⟨h1, rfl⟩
    · cases hm
    · obtain ⟨c, hc⟩ := hfree _ h1 rfl
      rw [hc]
      obtain ⟨w, z⟩ := I.cell _ _ hc
      exact ⟨rfl, z.lt⟩
  have mem : ∀ {y c}, cenv.cells.lookup y = some c → (X.env.cells.lookup y = some c ∧ c < s.heap.objs.size) ∨ (s.heap.objs.size + 1 ≤ c ∧ CellAt (pushCells (s.heap.push { cls := .type "dict", data := .dict #[] }) scope.names) c none) := fun {y c} e => by
    rw [hcl] at e
    rcases cells_mem (PySem.mem_of_lookup e) with hm | ⟨_, h2, h3⟩
    · exact .inl (cm hm)
    · rw [Heap.size_push] at h2; exact .inr ⟨h2, h3⟩
  have look : ∀ {y}, scope.names.lookup y = some .free → ∃ c, cenv.cells.lookup y = some c ∧ X.env.cells.lookup y = some c := fun {y} hl => by
    have hy : (y, NameKind.free) ∈ scope.names := PySem.mem_of_lookup hl
    obtain ⟨c', e'⟩ := mem_lookup (cells_acc (names := scope.names) (n := (s.heap.push { cls := .type "dict", data := .dict #[] }).objs.size) (cloFrom_has (cells := X.env.cells) (acc := []) hy))
    rw [← hcl] at e'
    refine ⟨c', e', ?_⟩
    rw [hcl] at e'
    rcases cells_mem (PySem.mem_of_lookup e') with hm | ⟨h1, _, _⟩
    · exact (cm hm).1
    · have := ok.uniq _ h1
      rw [hl] at this; cases this
  have okB : (X.blk s H scope cenv fp).Ok := by
    refine ⟨I.ok.mod, by show cenv.scope.kind = _; rw [hsc]; exact ok.kind, by show cenv.globals = _; rw [← hcenv]; exact I.ok.glob, by show cenv.builtins = _; rw [← hcenv]; exact I.ok.blt, by show s.heap.objs.size ≤ cenv.locals; rw [hL]; exact Nat.le_refl _,
      fun y z c e1 e2 => ?_, fun y hy => ?_, fun y c z e => ?_, I.ok.hd, I.ok.frames, .inl rfl, fun b hb => ⟨?_, fun y c e z => ?_⟩, I.bs, Nat.le_trans I.ok.bsz I.sz, fun b o e hb => ?_, fun b hb z => ?_, I.stack, I.stkFree⟩
    · have e1 : cenv.cells.lookup y = some c := e1
      have e2 : cenv.cells.lookup z = some c := e2
      rw [hcl] at e1 e2
      refine cells_inj (fun p hp => ?_) (fun y z c a b => I.ok.inj y z c (cm a).1 (cm b).1) (PySem.mem_of_lookup e1) (PySem.mem_of_lookup e2)
      rw [Heap.size_push]
      exact Nat.lt_succ_of_lt (cm (y := p.1) (c := p.2) hp).2
    · show ∃ c, cenv.cells.lookup y = some c
      have key : ∀ k, cenv.kindOf y = some k → (k = .cell ∨ k = .free) → ∃ c, cenv.cells.lookup y = some c := fun k hk hk' => by
        unfold Env.kindOf at hk
        rw [hsc] at hk
        obtain ⟨k', e, r⟩ := lookup_relS hk
        have : k' = .cell ∨ k' = .free := by
          rcases r with rfl | ⟨rfl, _⟩
          · exact hk'
          · exact .inr rfl
        rcases this with rfl | rfl
        · obtain ⟨c, hm⟩ := cells_has (n := (s.heap.push { cls := .type "dict", data := .dict #[] }).objs.size) (acc := cloFrom X.env.cells scope.names []) (PySem.mem_of_lookup e)
          obtain ⟨c', e'⟩ := mem_lookup hm
          exact ⟨c', by rw [hcl]; exact e'⟩
        · obtain ⟨c, h1, _⟩ := look e
          exact ⟨c, h1⟩
      rcases hy with hy | hy
      · exact key _ hy (.inl rfl)
      · exact key _ hy (.inr rfl)
    · have z : (scope.names.lookup y == some NameKind.cell) = true := z
      have z : scope.names.lookup y = some .cell := by simpa using z
      have e : cenv.cells.lookup y = some c := e
      rw [hcl] at e
      rcases cells_mem (PySem.mem_of_lookup e) with hm | ⟨_, h2, _⟩
      · rcases cloFrom_mem hm with hm | ⟨h1, _⟩
        · cases hm
        · have q := ok.uniq _ h1
          rw [z] at q; cases q
      · rw [Heap.size_push] at h2
        exact Nat.le_of_succ_le h2
    · show b ≠ cenv.locals
      rw [hL]; exact Nat.ne_of_lt (hfp b hb).2
    · have e : cenv.cells.lookup y = some c := e
      rcases mem e with ⟨h1, _⟩ | ⟨h1, _⟩
      · exact (hfp b hb).1.2.2.2.2.1 y c h1 z
      · have h2 : s.heap.objs.size + 1 ≤ b := by rw [← z]; exact h1
        exact absurd (Nat.lt_of_lt_of_le (hfp b hb).2 (Nat.le_of_succ_le h2)) (Nat.lt_irrefl _)
    · rcases (hfp b hb).1.2.2.2.1 with z | z
      · exact I.ok.noex b o e z
      · exact absurd (Nat.lt_of_lt_of_le (Heap.lt_size e) (Nat.le_trans I.ok.bsz z)) (Nat.lt_irrefl _)
    · rcases List.mem_cons.mp (I.stkSub b z) with z | z
      · exact (hfp b hb).1.2.1 z
      · exact (hfp b hb).1.2.2.1 z
  refine ⟨okB, rfl, I.bare, Un.kept kp, ⟨fun _ => none, ?_, fun i y av e1 e2 e3 => ?_⟩, fun y c e => ?_, ?_, fun y c e => ?_, fun p hp => ?_, I.hok.kept kp, by rw [wipe_length]; exact I.len⟩
  · show Heap.Ns _ cenv.locals _
    rw [hL]
    exact Heap.Ns.keeps (Heap.Ns.new ..) fun b o e => pushCells_keeps _ _ _ _ e
  · obtain ⟨e2, hne⟩ := wipe_some e2
    have hfr : scope.names.lookup y = some .free ∧ (cenv.kindOf y = some .cell ∨ cenv.kindOf y = some .free) := by
      have key : ∀ k, cenv.scope.names.lookup y = some k → k = .local ∨ k = .cell ∨ k = .free → scope.names.lookup y = some .free ∧ (cenv.kindOf y = some .cell ∨ cenv.kindOf y = some .free) := fun k hk hk' => by
        have hk0 := hk
        rw [hsc] at hk
        obtain ⟨k', e, r⟩ := lookup_relS hk
        have no : ¬ (k' = .local ∨ k' = .cell) := fun hh => by
          rcases ok.own _ (PySem.mem_of_lookup e) hh with e' | e'
          · obtain ⟨p, hp, hpy⟩ := List.mem_map.mp e'
            have e3 := ok.ix p hp
            have : p.1 = y := hpy
            rw [this] at e3
            exact hne (List.mem_map.mpr ⟨p, hp, nodup_ix hN e3 e1⟩)
          · exact e' (List.mem_of_getElem? e1)
        rcases r with rfl | ⟨rfl, rfl⟩
        · rcases hk' with rfl | rfl | rfl
          · exact absurd (.inl rfl) no
          · exact absurd (.inr rfl) no
          · exact ⟨e, .inr hk0⟩
        · exact ⟨e, .inl hk0⟩
      have e3 : Vis cenv.scope y := e3
      rcases e3 with e3 | e3 | e3
      · exact key _ e3 (.inl rfl)
      · exact key _ e3 (.inr (.inl rfl))
      · exact key _ e3 (.inr (.inr rfl))
    obtain ⟨m, hn, hl⟩ := I.loc
    have hvis : Vis X.env.scope y := (ok.free _ (PySem.mem_of_lookup hfr.1) rfl).elim (fun k => .inr (.inl k)) (fun k => .inr (.inr k))
    obtain ⟨w, r, q⟩ := hl i y av e1 e2 hvis
    refine ⟨w, r, .inr ⟨hfr.2, ?_⟩⟩
    obtain ⟨c, h1, h2⟩ := look hfr.1
    rcases q with ⟨k, _⟩ | ⟨_, c', e', z⟩
    · have k : X.env.scope.names.lookup y = some .local := k
      rcases ok.free _ (PySem.mem_of_lookup hfr.1) rfl with k' | k' <;> rw [show X.env.scope.names.lookup y = _ from k'] at k <;> cases k
    · rw [h2] at e'; cases e'
      exact ⟨c, h1, z.keeps kp⟩
  · have e : cenv.cells.lookup y = some c := e
    rcases mem e with ⟨h1, _⟩ | ⟨_, z⟩
    · obtain ⟨w, z⟩ := I.cell y c h1
      exact ⟨w, z.keeps kp⟩
    · exact ⟨_, z⟩
  · show H cenv.locals = none
    rw [hL]; exact I.hok.fresh (Nat.le_refl _)
  · have e : cenv.cells.lookup y = some c := e
    rcases mem e with ⟨h1, _⟩ | ⟨h1, _⟩
    · exact I.freeC y c h1
    · exact I.hok.fresh (Nat.le_of_succ_le h1)
  · exact absurd (show p ∈ ([] : List (Addr × Obj)) ++ [] from hp) (by simp)
/-- an item appended to a tracked list -/
theorem app_ok {E : Value → Shared → Prop} {D : Addr} {xs : List V} {y : V} {v : Value} {Q : Value → Shared → Prop} (I : Inv X pins σ H s) (hD : H D = some (.lst xs)) (hz : xs.length < sizeLine) (r : RelV y v)
    (h : ∀ s', Inv X pins σ (upd H D (.lst (xs ++ [y]))) s' → Q .none s') : wpAny (model X.prog X.w) X.A (call (.builtin "list.append") [.ref D, v]) Q E s := by
  obtain ⟨hz', its, n, ri, e⟩ := I.hok D _ hD
  have hl := ri.length
  refine append_at (hsz := by rw [List.size_toArray]; omega) e fun h' sb ho' => ?_
  refine h { s with heap := h' } (I.write (t' := s.toks) (by rw [hD]; trivial) (.inl rfl) (fun b u hb q => (sb.2 b hb).trans q) ⟨_, ho'⟩ ⟨by rw [List.length_append]; exact hz, its ++ [v], n + 1, ri.append (.cons r .nil), ?_⟩)
  rw [ho']
  simp
/-- a clause's tests -/
def PTs (X : Cx) (ifs : List Expr) (t : TT) : Prop :=
  ∀ (pins : List (Addr × Obj)) (s : Shared) (σ : St) (H : Hp) (Q : Bool → Hp → Prop), Inv X pins σ H s → t σ H Q →
    wpAny (model X.prog X.w) X.A (forIn ifs true fun c r => if r = true then do let ok ← isTrue c X.env (eval c X.env); pure (ForInStep.yield ok) else pure (ForInStep.yield r)) (TP X pins σ Q) X.xe s
def tYes : TT := fun _ H Q => Q true H
theorem pts_nil : PTs X [] tYes := fun _ _ _ H _ I h => wpAny_tests_nil ⟨H, I, h⟩
end
theorem thnF {α : Type} {t : Sem α} {Q Q' : α → Shared → Prop} {M : Model} {A : Around} {E : Value → Shared → Prop} {s : Shared} (h : wpAny M A t Q (fun _ _ => False) s) (hQ : ∀ a s, Q a s → Q' a s) : wpAny M A t Q' E s := wpAny_mono h hQ fun _ _ z => False.elim z
/-- the loop of a list comprehension's block, the target of any form (codeAny_compLoop_tests asks a target that no tuple goes to; statement and proof follow it, PyProof/CompMap.lean:41-61, with the step letOwnedTupleGo kept) -/
theorem compLoop_any {prog : Program} {w : World} {A : Around} {R : Result → Shared → Prop} {s : Shared} {elt target iter : Expr} {ifs : List Expr} {scope : Scope} {pos : Pos} {it acc : Value} {env : Env} (I : Nat → Shared → Prop)
    (turn : ∀ n s, I n s → wpAny (model prog w) A (pyNext it) (fun r s₁ => match r with
      | none => R (.ok .next) s₁
      | some v => wpAny (model prog w) A (letOwnedTupleGo target it v) (fun _ s₁' => wpAny (model prog w) A (assign target env v) (fun _ s₂ =>
          wpAny (model prog w) A (forIn ifs true fun c r => if r = true then do let ok ← isTrue c env (eval c env); pure (ForInStep.yield ok) else pure (ForInStep.yield r)) (fun ok s₃ =>
            if ok = true then wpAny (model prog w) A (eval elt env) (fun x s₄ =>
              wpAny (model prog w) A (call (.builtin "list.append") [acc, x]) (fun _ s₅ => ∃ m, m < n ∧ I m s₅) (notedBy (model prog w) A env fun e s' => R (.error e) s') s₄) (notedBy (model prog w) A env fun e s' => R (.error e) s') s₃
            else ∃ m, m < n ∧ I m s₃) (notedBy (model prog w) A env fun e s' => R (.error e) s') s₂) (notedBy (model prog w) A env fun e s' => R (.error e) s') s₁') (notedBy (model prog w) A env fun e s' => R (.error e) s') s₁) (notedBy (model prog w) A env fun e s' => R (.error e) s') s)
    (n : Nat) (h : I n s) :
    codeAny (model prog w) A (.compLoop (.ListComp elt [⟨target, iter, ifs, 0⟩] scope pos) 0 it acc env) R s := by
  refine codeAny_loop rfl I (fun n s hI => ?_) n h
  show wpAny _ A ((compTurn (.ListComp elt [⟨target, iter, ifs, 0⟩] scope pos) 0 it acc env).onRaise (fun x => do noteFrame x env; theTreesLotGoes x)) _ _ s
  refine wpAny_noted ?_
  rw [compTurn_list]
  refine wpAny_bind (wpAny_standAt (wpAny_bind (wpAny_mono (turn n s hI) (fun r s₁ h₁ => ?_) fun _ _ h' => h')))
  cases r with
  | none => exact wpAny_pure h₁
  | some v =>
    refine wpAny_bind (wpAny_mono h₁ (fun _ s₁' h₁' => ?_) fun _ _ h' => h')
    refine wpAny_bind (wpAny_mono h₁' (fun _ s₂ h₂ => wpAny_bind (wpAny_mono h₂ (fun ok s₃ h₃ => ?_) fun _ _ h' => h')) fun _ _ h' => h')
    cases ok with
    | false => exact wpAny_pure ⟨rfl, h₃⟩
    | true =>
      exact wpAny_bind (wpAny_bind (wpAny_mono h₃ (fun x s₄ h₄ => wpAny_bind (wpAny_mono h₄ (fun _ s₅ h₅ => wpAny_pure (wpAny_pure ⟨rfl, h₅⟩)) fun _ _ h' => h')) fun _ _ h' => h'))
section
variable {X : Cx}
/-- [elt for target in iter if ..]: D the new list; W by the turn and a measure, Nx what a turn is to reach -/
def tLc (wi : TI) (g : TG) (tt : TT) (te : TE) (vs : List Nat) : TE := fun σ H Q => wi σ H fun J H1 => ∀ D, H1 D = none → ∃ W : Nat → Nat → Hp → Prop, (∃ m, W 0 m (upd H1 D (.lst []))) ∧ ∀ i m H, W i m H →
  (J.stop i H ∧ Q (.ref D) H) ∨ (J.go i H ∧ ∃ Nx : Hp → Prop, (∀ H', Nx H' → ∃ m', m' < m ∧ W (i + 1) m' H') ∧ ∀ x H', J.yld i H x H' → g x (wipe σ vs) H' fun σ2 H2 => wipe σ2 vs = wipe σ vs ∧ tt σ2 H2 fun b H3 =>
    if b = true then te σ2 H3 fun y H4 => ∃ acc, H4 D = some (.lst acc) ∧ acc.length < sizeLine ∧ Nx (upd H4 D (.lst (acc ++ [y]))) else Nx H3)
theorem lc_core {pins : List (Addr × Obj)} {s : Shared} {σ : St} {H : Hp} {Q : VK} {elt tg iter : Expr} {ifs : List Expr} {scope : Scope} {own : List (Str × Nat)} {pos pos' : Pos} {wi : TI} {g : TG} {tt : TT} {te : TE} {use : Option (Value → Sem Unit)} {Qf : Value → Shared → Prop}
    (hc : X.calm = true) (hN : X.N.Nodup) (I : Inv X pins σ H s) (hi : PI X tg iter wi) (ok : BlkOk X.N X.env.scope scope own)
    (hg : ∀ (s : Shared) (H : Hp) (C : Addr) (cl : List (Str × Addr)) (fp : List Addr), PG (X.blk s H scope (compEnvC scope cl C X.env) fp) tg g) (ht : ∀ (s : Shared) (H : Hp) (C : Addr) (cl : List (Str × Addr)) (fp : List Addr), PTs (X.blk s H scope (compEnvC scope cl C X.env) fp) ifs tt)
    (he : ∀ (s : Shared) (H : Hp) (C : Addr) (cl : List (Str × Addr)) (fp : List Addr), PE (X.blk s H scope (compEnvC scope cl C X.env) fp) elt te) (hs : ∀ x, foldedSetIterable iter X.env x = pure x)
    (h : tLc wi g tt te (own.map (·.2)) σ H Q)
    (hRR : ∀ D C s' m H', Inv X pins σ H' s' → Q (.ref D) H' → s'.heap.Ns C m → FpOk X pins H' C → compPost (model X.prog X.w) X.A X.xe use Qf (.ref D) C (.ok .next) s') :
    wpAny (model X.prog X.w) X.A (comprehension (.ListComp elt [⟨tg, iter, ifs, 0⟩] scope pos) scope X.env pos' (newList []) false (eval iter X.env) use) Qf X.xe s := by
  have hfree : ∀ y ∈ scope.names, y.2 = .free → ∃ c, X.env.cells.lookup y.1 = some c := fun y hy e => by
    rcases ok.free y hy e with k | k
    · exact I.ok.has _ (.inl k)
    · exact I.ok.has _ (.inr k)
  refine wpAny_comprehension_free (use := use) rfl hs (closure_ok hfree) ok.kind (fun y hy e => by rw [ok.uniq y hy, e])
    (thn (hi pins s σ H _ I h) fun xv s1 hx => thn hx fun itv s2 h2 => ?_)
  obtain ⟨it, fp, tn, J, H2, e, I2, T, st2, f2, q⟩ := h2
  subst e
  refine wpAny_newObj_type (newEnv_comp ?_) (by show 0 ≤ sizeLine; decide)
  generalize hD : s2.heap.objs.size = D
  have hDn : H2 D = none := I2.hok.fresh (Nat.le_of_eq hD)
  obtain ⟨W, ⟨m0, w0⟩, turn⟩ := q D hDn
  generalize hs3 : ({ s2 with heap := s2.heap.push { cls := .type "list", data := .seq ([] : List Value).toArray } } : Shared) = s3
  have I3 : Inv X pins σ (upd H2 D (.lst [])) s3 := by
    rw [← hs3]
    refine I2.laid (t' := s2.toks) (fun b o e => Heap.get?_push_of_some _ e) (Nat.le_of_eq hD) ⟨Nat.zero_le _, [], 0, .nil, ?_⟩
    rw [← hD]
    exact Heap.get?_push_size _ rfl
  have h3 : s3.heap = s2.heap.push { cls := .type "list", data := .seq ([] : List Value).toArray } := by rw [← hs3]
  have sz : ∀ b ∈ fp, b < s2.heap.objs.size := fun b hb => by
    obtain ⟨o, e, _⟩ := T.obj _ _ st2 b hb
    exact Heap.lt_size e
  have f3 : ∀ b ∈ fp, FpOk X pins (upd H2 D (.lst [])) b ∧ b < s3.heap.objs.size := fun b hb => by
    have hlt := sz b hb
    refine ⟨⟨?_, (f2 b hb).2⟩, by rw [h3, Heap.size_push]; exact Nat.lt_succ_of_lt hlt⟩
    rw [upd_ne (by rw [← hD]; exact Nat.ne_of_lt hlt)]
    exact (f2 b hb).1
  have st3 : tn 0 s3.heap := T.keep _ _ _ st2 fun b _ o e => by rw [h3]; exact Heap.get?_push_of_some _ e
  have I4 := block_start I3 ok hN f3
  have pg := hg s3 (upd H2 D (.lst [])) s3.heap.objs.size (cellsFrom (s3.heap.objs.size + 1) scope.names (cloFrom X.env.cells scope.names [])) fp
  have pt := ht s3 (upd H2 D (.lst [])) s3.heap.objs.size (cellsFrom (s3.heap.objs.size + 1) scope.names (cloFrom X.env.cells scope.names [])) fp
  have pe := he s3 (upd H2 D (.lst [])) s3.heap.objs.size (cellsFrom (s3.heap.objs.size + 1) scope.names (cloFrom X.env.cells scope.names [])) fp
  show codeAny _ _ (.compStart (.ListComp elt [⟨tg, iter, ifs, 0⟩] scope pos) 0 (.ref it) (.ref D) (compEnvC scope (cellsFrom (s3.heap.objs.size + 1) scope.names (cloFrom X.env.cells scope.names [])) s3.heap.objs.size X.env)) (compPost (model X.prog X.w) X.A X.xe use Qf (.ref D) s3.heap.objs.size) { s3 with heap := pushCells (s3.heap.push { cls := .type "dict", data := .dict #[] }) scope.names }
  have nfp : ∀ b ∈ fp, (upd H2 D (.lst [])) b = none := fun b hb => (f3 b hb).1.1
  generalize hce : compEnvC scope (cellsFrom (s3.heap.objs.size + 1) scope.names (cloFrom X.env.cells scope.names [])) s3.heap.objs.size X.env = ce at I4 pg pt pe ⊢
  have cL : ce.locals = s3.heap.objs.size := by subst hce; rfl
  generalize hH3 : upd H2 D (.lst []) = H3 at I3 I4 pg pt pe w0 nfp f3
  generalize hs4 : ({ s3 with heap := pushCells (s3.heap.push { cls := .type "dict", data := .dict #[] }) scope.names } : Shared) = s4 at I4 ⊢
  have st4 : tn 0 s4.heap := T.keep _ _ _ st3 fun b _ o e => by rw [← hs4]; exact pushCells_keeps _ _ _ _ (Heap.get?_push_of_some _ e)
  have stat : ∀ {σ' : St} {H' : Hp} {s' : Shared}, Inv (X.blk s3 H3 scope ce fp) [] σ' H' s' → (∀ b ∈ fp, H' b = none) → ∀ b ∈ fp, FpOk (X.blk s3 H3 scope ce fp) [] H' b := fun {σ' H' s'} I' hn b hb =>
    ⟨hn b hb, (I'.ok.exf b hb).1, I'.ok.exfs b hb, .inl hb, fun x c e => (I'.ok.exf b hb).2 x c e, fun p hp => absurd (show p ∈ ([] : List (Addr × Obj)) ++ [] from hp) (by simp)⟩
  have loop : codeAny (model X.prog X.w) X.A (.compLoop (.ListComp elt [⟨tg, iter, ifs, 0⟩] scope pos) 0 (.ref it) (.ref D) ce) (compPost (model X.prog X.w) X.A X.xe use Qf (.ref D) s3.heap.objs.size) s4 := by
    refine compLoop_any (fun n s' => ∃ i H', Inv (X.blk s3 H3 scope ce fp) [] (wipe σ (own.map (·.2))) H' s' ∧ tn i s'.heap ∧ (∀ b ∈ fp, H' b = none) ∧ W i n H') ?_ m0 ⟨0, H3, I4, st4, nfp, w0⟩
    rintro n s5 ⟨i, H5, I5, st5, n5, w5⟩
    rcases turn i n H5 w5 with ⟨stop, qq⟩ | ⟨go, Nx, hNx, step⟩
    · have td := T.done (X.blk s3 H3 scope ce fp) rfl rfl rfl hc i [] s5 _ H5 (fun _ _ => False) I5 (stat I5 n5) st5 stop
      refine thnF td fun r s6 ⟨hr, I6⟩ => ?_
      subst hr
      have I7 : Inv X pins σ H5 s6 := I3.call' (ch := fp) I6.os I6.base I6.hok I6.bare fun b hb => ⟨(f3 b hb).1.2.2.2.1, (f3 b hb).1.2.1, (f3 b hb).1.2.2.2.2.1, (f3 b hb).1.2.2.2.2.2⟩
      have nC : H5 s3.heap.objs.size = none := by
        have z : H5 ce.locals = none := I6.free
        rw [cL] at z
        exact z
      obtain ⟨m, hn, _⟩ := I6.loc
      have hn : s6.heap.Ns ce.locals m := hn
      rw [cL] at hn
      exact hRR D s3.heap.objs.size s6 m H5 I7 qq hn (I3.fpOk (Nat.le_refl _) nC)
    · have ti := T.item (X.blk s3 H3 scope ce fp) rfl rfl rfl hc i [] s5 _ H5 (fun _ _ => False) I5 (stat I5 n5) st5 go
      refine thnF ti fun r s6 ⟨u, hr, h6⟩ => ?_
      subst hr
      refine thnF h6 fun _ s7 ⟨x, H7, I7, r7, y7, st7, n7⟩ => ?_
      have I7' := I7.pinned (stat I7 n7) (T.obj _ _ st7)
      refine thnF (pg _ s7 _ H7 x u _ I7' r7 (step x H7 y7)) fun _ s8 ⟨σ8, H8, I8, hw8, q8⟩ => ?_
      refine thnF (pt _ s8 σ8 H8 _ I8 q8) fun b s9 ⟨H9, I9, q9⟩ => ?_
      have fin : ∀ {s' : Shared} {H' : Hp}, Inv (X.blk s3 H3 scope ce fp) ([] ++ pinsAt fp s7.heap) σ8 H' s' → Nx H' → ∃ m, m < n ∧ ∃ i H', Inv (X.blk s3 H3 scope ce fp) [] (wipe σ (own.map (·.2))) H' s' ∧ tn i s'.heap ∧ (∀ b ∈ fp, H' b = none) ∧ W i m H' := fun {s' H'} I' nx => by
        obtain ⟨m', hm, w'⟩ := hNx H' nx
        have pin' : ∀ b ∈ fp, ∀ o, s7.heap.get? b = some o → s'.heap.get? b = some o ∧ H' b = none := fun b hb o e =>
          let z := I'.pin (b, o) (List.mem_append_right _ (List.mem_append_right _ (mem_pinsAt hb e)))
          ⟨z.1, z.2.1⟩
        have hl : (wipe σ (own.map (·.2))).length = σ8.length := by rw [← hw8, wipe_length]
        refine ⟨m', hm, i + 1, H', (I'.unpinned (pins := [])).weak hl (fun j v e => ?_), T.keep _ _ _ st7 fun b hb o e => (pin' b hb o e).1, fun b hb => ?_, w'⟩
        · rw [← hw8] at e
          exact (wipe_some e).1
        · obtain ⟨o, e, _⟩ := T.obj _ _ st7 b hb
          exact (pin' b hb o e).2
      cases b with
      | false =>
        simp only [Bool.false_eq_true, if_false] at q9 ⊢
        exact fin I9 q9
      | true =>
        simp only [if_true] at q9 ⊢
        refine thnF (pe _ s9 σ8 H9 _ I9 q9) fun z s10 ⟨yv, H10, I10, r10, acc, hD10, hz10, nx⟩ => ?_
        exact app_ok (X := X.blk s3 H3 scope ce fp) I10 hD10 hz10 r10 fun s11 I11 => fin I11 nx
  exact codeAny_compStart_list loop (T.self X.A 0 _ _ _ st4 loop)
/-- as a value -/
theorem pe_lc {elt tg iter : Expr} {ifs : List Expr} {scope : Scope} {own : List (Str × Nat)} {pos : Pos} {wi : TI} {g : TG} {tt : TT} {te : TE} (hc : X.calm = true) (hN : X.N.Nodup) (hi : PI X tg iter wi) (ok : BlkOk X.N X.env.scope scope own)
    (hg : ∀ (s : Shared) (H : Hp) (C : Addr) (cl : List (Str × Addr)) (fp : List Addr), PG (X.blk s H scope (compEnvC scope cl C X.env) fp) tg g) (ht : ∀ (s : Shared) (H : Hp) (C : Addr) (cl : List (Str × Addr)) (fp : List Addr), PTs (X.blk s H scope (compEnvC scope cl C X.env) fp) ifs tt)
    (he : ∀ (s : Shared) (H : Hp) (C : Addr) (cl : List (Str × Addr)) (fp : List Addr), PE (X.blk s H scope (compEnvC scope cl C X.env) fp) elt te) (hs : ∀ x, foldedSetIterable iter X.env x = pure x := by intro _; rfl) :
    PE X (.ListComp elt [⟨tg, iter, ifs, 0⟩] scope pos) (tLc wi g tt te (own.map (·.2))) := by
  intro pins s σ H Q I h
  rw [eval_ListComp]
  refine lc_core hc hN I hi ok hg ht he hs h fun D C s' m H' I' q hn f => ⟨m, hn, fun h'' sb => ?_⟩
  obtain ⟨f0, f1, f2, f3, f4, f5⟩ := f
  exact ⟨.ref D, H', I'.turned (t' := s'.toks) (fun b o hb e => (sb.2 b hb).trans e) f0 f1 f3 f4 f5, rfl, q⟩
/-- name = [..] on one line, the name a local -/
theorem ps_setLc {i : Nat} {y : Str} {py : Pos} {elt tg iter : Expr} {ifs : List Expr} {scope : Scope} {own : List (Str × Nat)} {pos spos : Pos} {wi : TI} {g : TG} {tt : TT} {te : TE} (hc : X.calm = true) (hN : X.N.Nodup) (hy : X.N[i]? = some y) (hyl : X.env.scope.names.lookup y = some .local)
    (hsw : swapsWith (.ListComp elt [⟨tg, iter, ifs, 0⟩] scope pos) (some (.Name y py)) spos.line X.env = pure true) (hi : PI X tg iter wi) (ok : BlkOk X.N X.env.scope scope own)
    (hg : ∀ (s : Shared) (H : Hp) (C : Addr) (cl : List (Str × Addr)) (fp : List Addr), PG (X.blk s H scope (compEnvC scope cl C X.env) fp) tg g) (ht : ∀ (s : Shared) (H : Hp) (C : Addr) (cl : List (Str × Addr)) (fp : List Addr), PTs (X.blk s H scope (compEnvC scope cl C X.env) fp) ifs tt)
    (he : ∀ (s : Shared) (H : Hp) (C : Addr) (cl : List (Str × Addr)) (fp : List Addr), PE (X.blk s H scope (compEnvC scope cl C X.env) fp) elt te) (hs : ∀ x, foldedSetIterable iter X.env x = pure x := by intro _; rfl) :
    PS X (.Assign [.Name y py] (.ListComp elt [⟨tg, iter, ifs, 0⟩] scope pos) spos) (tAsg (tLc wi g tt te (own.map (·.2))) (gName i)) := by
  intro pins s σ H D I h
  rw [exec_Assign_Name_used _ _ _ _ hsw]
  refine wpAny_bind (wpAny_standAt (wpAny_bind ?_))
  show wpAny _ X.A (do let _ ← comprehension (.ListComp elt [⟨tg, iter, ifs, 0⟩] scope pos) scope X.env (firstIterPos [⟨tg, iter, ifs, 0⟩] pos) (newList []) false (eval iter X.env) (some (assign (.Name y py) X.env))) _ _ s
  have h : tLc wi g tt te (own.map (·.2)) σ H (fun x H1 => gName i x σ H1 D.nx) := h
  refine wpAny_bind (thn (lc_core (Qf := fun _ s' => SP X pins D .next s') hc hN I hi ok hg ht he hs h fun L C s' m H' I' q hn f => ?_) fun _ s' hq => wpAny_pure (wpAny_pure hq))
  show wpAny _ _ (assign (.Name y py) X.env (.ref L)) _ _ _
  refine wpAny_assign_Name (store_ok2 (v := V.ref L) I' hN hy (.inl hyl) rfl (fun s2 I2 ⟨a, sb, ha⟩ => ?_) (.inr hyl))
  obtain ⟨f0, f1, f2, f3, f4, f5⟩ := f
  have haC : C ≠ a := by
    rcases ha with z | z
    · rw [z]; exact f1
    · exact fun e => f4 y a z e.symm
  refine ⟨m, hn.sameBut sb haC, fun h3 sb3 => ?_⟩
  exact ⟨_, H', I2.turned (t' := s2.toks) (fun b o hb e => (sb3.2 b hb).trans e) f0 f1 f3 f4 f5, q⟩
theorem sw_true {elt : Expr} {gs : List Comprehension} {scope : Scope} {pos py : Pos} {y : Str} {l : Nat} {env : Env} (hk : env.scope.kind = .function) (hy : env.scope.names.lookup y = some .local) (hl : (py.line == pos.line) = true)
    (ha : (scope.names.any fun (n, k) => n == y && (k == .local || k == .cell)) = false) : swapsWith (.ListComp elt gs scope pos) (some (.Name y py)) l env = pure true := by
  have ky : env.kindOf y = some .local := hy
  have hb : env.blockKind = .function := by unfold Env.blockKind; rw [hk]; rfl
  unfold swapsWith
  simp only [hb, ky, ha, Expr.pos, hl]
  rfl
end
/-- over a list that the block leaves as it is -/
theorem lc_list {K : PySem.W.Frag} {a : Addr} {xs : List V} {g : TG} {tt : TT} {te : TE} {vs : List Nat} {σ : St} {H1 : Hp} {D : Addr} {Qd : Hp → Prop} (Pv : Nat → Hp → Prop) (h0 : Pv 0 (upd H1 D (.lst []))) (hl : ∀ i H, i ≤ xs.length → Pv i H → SqL K H a xs)
    (hs : ∀ i x H, xs[i]? = some x → Pv i H → g x (wipe σ vs) H fun σ2 H2 => wipe σ2 vs = wipe σ vs ∧ tt σ2 H2 fun b H3 =>
      if b = true then te σ2 H3 fun y H4 => ∃ acc, H4 D = some (.lst acc) ∧ acc.length < sizeLine ∧ Pv (i + 1) (upd H4 D (.lst (acc ++ [y]))) else Pv (i + 1) H3) (hd : ∀ H, Pv xs.length H → Qd H) :
    ∃ W : Nat → Nat → Hp → Prop, (∃ m, W 0 m (upd H1 D (.lst []))) ∧ ∀ i m H, W i m H →
      ((Itl K a).stop i H ∧ Qd H) ∨ ((Itl K a).go i H ∧ ∃ Nx : Hp → Prop, (∀ H', Nx H' → ∃ m', m' < m ∧ W (i + 1) m' H') ∧ ∀ x H', (Itl K a).yld i H x H' → g x (wipe σ vs) H' fun σ2 H2 => wipe σ2 vs = wipe σ vs ∧ tt σ2 H2 fun b H3 =>
        if b = true then te σ2 H3 fun y H4 => ∃ acc, H4 D = some (.lst acc) ∧ acc.length < sizeLine ∧ Nx (upd H4 D (.lst (acc ++ [y]))) else Nx H3) := by
  refine ⟨fun i m H => m = xs.length - i ∧ i ≤ xs.length ∧ Pv i H, ⟨xs.length, by simp, Nat.zero_le _, h0⟩, ?_⟩
  rintro i m H ⟨rfl, hi, p⟩
  have q := hl i H hi p
  by_cases hlt : i < xs.length
  · refine .inr ⟨⟨xs, xs[i], q, by simp [hlt]⟩, Pv (i + 1), fun H' p' => ⟨xs.length - (i + 1), by omega, rfl, hlt, p'⟩, fun x H' y => ?_⟩
    obtain ⟨e, y⟩ := y
    subst e
    exact hs i x _ (y xs q) p
  · have e : i = xs.length := by omega
    subst e
    exact .inl ⟨⟨xs, q, Nat.le_refl _⟩, hd H p⟩
def blkC (N : List Str) (sc scope : Scope) (own : List (Str × Nat)) : Bool :=
  (match scope.kind with | .function => true | _ => false) && (scope.names.all fun y => decide (scope.names.lookup y.1 = some y.2)) && (own.all fun p => decide (N[p.2]? = some p.1)) &&
    (scope.names.all fun y => match y.2 with
      | .free => (match sc.names.lookup y.1 with | some .cell => true | some .free => true | _ => false)
      | .local => decide (y.1 ∈ own.map (·.1)) || decide (y.1 ∉ N)
      | .cell => decide (y.1 ∈ own.map (·.1)) || decide (y.1 ∉ N)
      | _ => true)
theorem blkOk_by {N : List Str} {sc scope : Scope} {own : List (Str × Nat)} (h : blkC N sc scope own = true) : BlkOk N sc scope own := by
  unfold blkC at h
  simp only [Bool.and_eq_true, List.all_eq_true, decide_eq_true_eq] at h
  obtain ⟨⟨⟨h1, h2⟩, h3⟩, h4⟩ := h
  refine ⟨?_, h2, h3, fun y hy e => ?_, fun y hy e => ?_⟩
  · split at h1
    · assumption
    · cases h1
  · have q := h4 y hy
    simp only [e] at q
    split at q <;> first | exact .inl (by assumption) | exact .inr (by assumption) | cases q
  · have q := h4 y hy
    rcases e with e | e <;> (simp only [e, Bool.or_eq_true, decide_eq_true_eq] at q; exact q)
end L2
namespace L2
open PySem PySem.Spec PyProof.Rows
section
variable {prog : Program} {w : World} {A : Around} {R : Result → Shared → Prop} {s : Shared} {elt t0 i0 t1 i1 : Expr} {ifs0 ifs1 : List Expr} {scope : Scope} {pos : Pos} {it acc : Value} {env : Env}
end
section
variable {X : Cx}
end
end L2
namespace L2
open PySem PySem.Spec PyProof.Rows
section
variable {κ : Type} [DecidableEq κ]
end
section
variable {P : Program} {w : World} {H : Hp} {h : Heap} {a : Addr}
end
section
variable {X : Cx} {pins : List (Addr × Obj)} {σ : St} {H : Hp} {s : Shared} {a : Addr} {y v : V} {u r : Value} {o : Option V} {A : Around} {E : Value → Shared → Prop}
end
section
variable {X : Cx} {pins : List (Addr × Obj)} {σ : St} {H : Hp} {s : Shared} {a : Addr} {kvs : List (Key × V)} {k : Key} {u : Value} {A : Around} {E : Value → Shared → Prop}
end
section
variable {X : Cx} {o i e value : Expr} {pos pos' tpos : Pos} {td ty tv : TE}
end
section
variable {X : Cx} {pos : Pos}
end
section
variable {X : Cx} {pins : List (Addr × Obj)} {σ : St} {H : Hp} {s : Shared} {a : Addr} {y d : V} {u r : Value} {o : Option V} {A : Around} {E : Value → Shared → Prop}
end
section
variable {X : Cx} {o e f : Expr} {apos cpos : Pos} {td ty tx : TE}
end
section
variable {X : Cx} {pins : List (Addr × Obj)} {σ : St} {H : Hp} {s : Shared} {a : Addr} {kvs : List (Key × V)} {A : Around} {E : Value → Shared → Prop}
end
section
variable {X : Cx} {pins : List (Addr × Obj)} {σ : St} {H : Hp} {s : Shared} {a : Addr} {y : V} {u : Value} {A : Around} {E : Value → Shared → Prop}
end
end L2
namespace L2
open PySem PySem.Spec PyProof.Rows
section
variable {prog : Program} {w : World} {A : Around} {E : Value → Shared → Prop}
end
section
variable {X : Cx}
end
end L2
namespace L2
open PySem PySem.Spec PyProof.Rows
section
variable {X : Cx} {pins : List (Addr × Obj)} {σ : St} {H : Hp} {s : Shared} {h' : Heap}
/-- several records of ours have turned -/
theorem Inv.turnedL {t' : Nat} {ch : List Addr} (I : Inv X pins σ H s) (k : ∀ b o, b ∉ ch → s.heap.get? b = some o → h'.get? b = some o) (hf : ∀ b ∈ ch, FpOk X pins H b) : Inv X pins σ H { s with heap := h', toks := t' } := by
  have nit : ∀ b u, H b = some u → b ∉ ch := fun b u e z => by
    have q := (hf b z).1
    rw [q] at e; cases e
  refine I.step (g' := s.gens) (d' := s.drawn) (ch := ch) (fun b hb => ⟨(hf b hb).2.2.2.1, (hf b hb).2.1, (hf b hb).2.2.2.2.1, (hf b hb).2.2.2.2.2⟩) (fun b o _ _ hc e _ => k b o hc e) (fun b o _ _ hc e _ => ⟨o.slots, k b o hc e⟩)
    (fun _ _ _ _ n => n) (fun b o hc e => ⟨o, k b o hc e⟩) (fun _ _ e => e) (fun _ _ _ e => e) (fun b ps e => ⟨#[], by rw [e]; simp⟩) (fun m hm => ?_) (fun b u e => ?_) I.bare
  · obtain ⟨o, es, ep, ho, r⟩ := hm
    exact ⟨o, es, ep, k _ o (fun z => (hf _ z).2.1 rfl) ho, r⟩
  · refine (I.hok b u e).stay (fun c v hc q => k c v ?_ q) (fun _ q => q) fun _ _ q => q
    rcases hc with z | z
    · rw [z]; exact nit b u e
    · exact nit c _ z
/-- .. and one new object is laid -/
theorem Inv.turnedNew {t' : Nat} {ch : List Addr} {T : Addr} {ob : HO} (I : Inv X pins σ H s) (k : ∀ b o, b ∉ ch → s.heap.get? b = some o → h'.get? b = some o) (hf : ∀ b ∈ ch, FpOk X pins H b) (hT : s.heap.objs.size ≤ T)
    (new : ObjOk X.prog X.w (upd H T ob) h' T ob) : Inv X pins σ (upd H T ob) { s with heap := h', toks := t' } := by
  have hn : H T = none := I.hok.fresh hT
  have nit : ∀ b u, H b = some u → b ∉ ch := fun b u e z => by
    have q := (hf b z).1
    rw [q] at e; cases e
  refine I.step (g' := s.gens) (d' := s.drawn) (ch := ch) (fun b hb => ⟨(hf b hb).2.2.2.1, (hf b hb).2.1, (hf b hb).2.2.2.2.1, (hf b hb).2.2.2.2.2⟩) (fun b o _ _ hc e _ => k b o hc e) (fun b o _ _ hc e _ => ⟨o.slots, k b o hc e⟩)
    (fun b o _ e n => ?_) (fun b o hc e => ⟨o, k b o hc e⟩) (fun b xs e => ?_) (fun b o u e => ?_) (fun b ps e => ⟨#[], ?_⟩) (fun m hm => ?_) (fun b u e => ?_) I.bare
  · rw [upd_ne (Nat.ne_of_lt (Nat.lt_of_lt_of_le (Heap.lt_size e) hT))]; exact n
  · rw [upd_ne (ne_of_none e hn)]; exact e
  · rw [upd_ne (ne_of_none e hn)]; exact e
  · rw [upd_ne (ne_of_none e hn), e]; simp
  · obtain ⟨o, es, ep, ho, r⟩ := hm
    exact ⟨o, es, ep, k _ o (fun z => (hf _ z).2.1 rfl) ho, r⟩
  · by_cases hb : b = T
    · subst hb
      rw [upd_same] at e
      cases e
      exact new
    · rw [upd_ne hb] at e
      refine (I.hok b u e).stay (fun c v hc q => k c v ?_ q) (fun c q => by rw [upd_ne (ne_of_none q hn)]; exact q) fun c xs q => by rw [upd_ne (ne_of_none q hn)]; exact q
      rcases hc with z | z
      · rw [z]; exact nit b u e
      · exact nit c _ z
end
section
variable {X : Cx}
end
section
variable {X : Cx} {tg : Expr}
end
section
variable {X : Cx} {tg : Expr}
end
section
variable {prog : Program} {w : World} {A : Around} {E : Value → Shared → Prop} {s : Shared}
end
section
variable {X : Cx} {pins : List (Addr × Obj)} {σ : St} {H : Hp} {s : Shared} {d : Addr} {o : Obj}
end
section
variable {P : Program} {w : World} {K : PySem.W.Frag} {tg : Expr} {d : Addr} {o : Obj} {es : Array DictEntry} {ep : Nat}
end
section
variable {X : Cx} {tg e : Expr} {td : TE} {apos cpos : Pos}
end
theorem boot_zip5 : bootBuiltins "zip" = some (.type "zip") := by decide +kernel
/-- the lists at a and b as they stand at each turn, the items in new pairs -/
def Itz (K : PySem.W.Frag) (a b : Addr) : It :=
  ⟨fun i H => ∃ (xs ys : List V) (x y : V), SqL K H a xs ∧ SqL K H b ys ∧ xs[i]? = some x ∧ ys[i]? = some y,
    fun i H v H' => ∃ T x y, v = .ref T ∧ H T = none ∧ H' = upd H T (.tup [x, y]) ∧ (∀ xs, SqL K H a xs → xs[i]? = some x) ∧ ∀ ys, SqL K H b ys → ys[i]? = some y,
    fun i H => ∃ xs ys : List V, SqL K H a xs ∧ SqL K H b ys ∧ (xs.length ≤ i ∨ ys.length ≤ i)⟩
theorem turn_zip {P : Program} {w : World} {K : PySem.W.Frag} {elts : List Expr} {kk : Nat} {tpos : Pos} {a b z TI TO i1 i2 : Addr} (D : ZipApart z TI TO i1 i2 a b) :
    Turn P w K (.Tuple elts kk tpos) (Itz K a b) [z, TI, TO, i1, i2] z (fun i h => IsZip h z TI TO .none ∧ IsPair h TI (.ref i1) (.ref i2) ∧ (∃ x y, IsPair h TO x y) ∧ h.IsListIter i1 a i ∧ h.IsListIter i2 b i) where
  mem := by simp
  obj := fun i h st c hc => by
    obtain ⟨hz, hTI, ⟨x, y, hTO⟩, ⟨o1, e1, _, d1⟩, ⟨o2, e2, _, d2⟩⟩ := st
    have e' : c = z ∨ c = TI ∨ c = TO ∨ c = i1 ∨ c = i2 := by simpa using hc
    rcases e' with q | q | q | q | q
    · rw [q]; exact ⟨_, hz, fun v q => nomatch q⟩
    · rw [q]; exact ⟨_, hTI, fun v q => nomatch q⟩
    · rw [q]; exact ⟨_, hTO, fun v q => nomatch q⟩
    · rw [q]; exact ⟨o1, e1, fun v q => by rw [d1] at q; cases q⟩
    · rw [q]; exact ⟨o2, e2, fun v q => by rw [d2] at q; cases q⟩
  keep := fun i h h' st k => by
    obtain ⟨hz, hTI, ⟨x, y, hTO⟩, h1, h2⟩ := st
    exact ⟨k z (by simp) _ hz, k TI (by simp) _ hTI, ⟨x, y, k TO (by simp) _ hTO⟩, h1.at fun o q => k i1 (by simp) o q, h2.at fun o q => k i2 (by simp) o q⟩
  item := by
    intro X hP hw hK hc i pins s σ H E I hf st hg
    subst hP hw hK
    obtain ⟨hz, hTI, ⟨x0, y0, hTO⟩, h1, h2⟩ := st
    obtain ⟨xs, ys, x, y, hqx, hqy, hx, hy⟩ := hg
    obtain ⟨its, rv, p, _⟩ := I.list hqx
    obtain ⟨its2, rv2, p2, _⟩ := I.list hqy
    obtain ⟨u, hu, ru⟩ := rv.get hx
    obtain ⟨u2, hu2, ru2⟩ := rv2.get hy
    have hzl : z < s.heap.objs.size := Heap.lt_size hz
    refine wpAny_pyNext_zip_item D hz hTI hTO h1 h2 p.isList p2.isList (x := u) (y := u2) (by simpa using hu) (by simpa using hu2) fun h' z' TO' h1' h2' hT hsz hk => ?_
    refine ⟨_, rfl, wpAny_letOwnedTupleGo_zip (s := { s with heap := h' }) z' fun h'' z'' sb => ?_⟩
    have hT2 : h''.get? s.heap.objs.size = some { cls := .type "tuple", data := .seq #[u, u2] } := (sb.2 _ (Nat.ne_of_gt hzl)).trans hT
    have new : ObjOk X.prog X.w (upd H s.heap.objs.size (.tup [x, y])) h'' s.heap.objs.size (.tup [x, y]) :=
      ⟨by show 2 ≤ sizeLine; decide, [u, u2], .cons ru (.cons ru2 .nil), ⟨_, hT2, rfl, _, rfl⟩⟩
    have I1 : Inv X pins σ (upd H s.heap.objs.size (.tup [x, y])) { s with heap := h'' } :=
      I.turnedNew (t' := s.toks) (ch := [z, TI, TO, i1, i2]) (fun c o hb q => (sb.2 c (fun q' => hb (by simp [q']))).trans (hk c o (fun q' => hb (by simp [q'])) (fun q' => hb (by simp [q'])) (fun q' => hb (by simp [q'])) (fun q' => hb (by simp [q'])) q)) hf (Nat.le_refl _) new
    refine ⟨.ref s.heap.objs.size, _, I1, rfl, ⟨_, x, y, rfl, I.hok.fresh (Nat.le_refl _), rfl, fun l hl => by rw [I.list_inj hl hqx]; exact hx, fun l hl => by rw [I.list_inj hl hqy]; exact hy⟩, ⟨z'', ?_, ⟨u, u2, ?_⟩, ?_, ?_⟩, fun c hcm => ?_⟩
    · exact (sb.2 _ D.TIz).trans (hk _ _ D.TIz D.TITO D.TIi1 D.TIi2 hTI)
    · exact (sb.2 _ D.TOz).trans TO'
    · exact h1'.at fun o q => (sb.2 _ D.i1z).trans q
    · exact h2'.at fun o q => (sb.2 _ D.i2z).trans q
    · have hlt : c < s.heap.objs.size := by
        have e' : c = z ∨ c = TI ∨ c = TO ∨ c = i1 ∨ c = i2 := by simpa using hcm
        rcases e' with q | q | q | q | q
        · rw [q]; exact hzl
        · rw [q]; exact Heap.lt_size hTI
        · rw [q]; exact Heap.lt_size hTO
        · rw [q]; obtain ⟨_, e1, _⟩ := h1; exact Heap.lt_size e1
        · rw [q]; obtain ⟨_, e2, _⟩ := h2; exact Heap.lt_size e2
      rw [upd_ne (Nat.ne_of_lt hlt)]
      exact (hf c hcm).1
  done := by
    intro X hP hw hK hc i pins s σ H E I hf st hg
    subst hP hw hK
    obtain ⟨hz, hTI, ⟨x0, y0, hTO⟩, h1, h2⟩ := st
    obtain ⟨xs, ys, hqx, hqy, hend⟩ := hg
    obtain ⟨its, rv, p, _⟩ := I.list hqx
    obtain ⟨its2, rv2, p2, _⟩ := I.list hqy
    have l1 := rv.length
    have l2 := rv2.length
    have he : its.toArray[i]? = none ∨ its2.toArray[i]? = none := by
      rcases hend with q | q
      · exact .inl (by simp; omega)
      · exact .inr (by simp; omega)
    exact wpAny_pyNext_zip_end (I.ok.hd hc) D hz hTI hTO h1 h2 p.isList p2.isList he fun h' hk => ⟨rfl, I.turnedL (t' := s.toks) (ch := [z, TI, TO, i1, i2]) (fun c o hb q =>
      hk c o (fun q' => hb (by simp [q'])) (fun q' => hb (by simp [q'])) (fun q' => hb (by simp [q'])) (fun q' => hb (by simp [q'])) q) hf⟩
  self := fun A i s Q E st h => wpAny_pyIter_zip st.1 h
def iZip (K : PySem.W.Frag) (ta : TA) : TI := fun σ H R => ta σ H fun vs H1 => ∃ a b xs ys, vs = [.ref a, .ref b] ∧ SqL K H1 a xs ∧ SqL K H1 b ys ∧ R (Itz K a b) H1
theorem pi_zip {X : Cx} {e e2 : Expr} {ta : TA} {p pos tpos : Pos} {elts : List Expr} {kk : Nat} (hg : Gl X "zip") (hm : X.mg "zip" = none) (ha : PA X [e, e2] ta)
    (hs : starEach [e, e2] X.env = (false, eval e X.env) :: starEach [e2] X.env := by rfl) (hpl : (backTo pos (starEach [e2] X.env)).any (·.1) = false := by rfl) :
    PI X (.Tuple elts kk tpos) (.Call (.Name "zip" p) [e, e2] [] pos) (iZip X.K ta) := by
  intro pins s σ H R I h
  refine Call_ (ld_blt I hg hm boot_zip5 (PyProof.Rows.callWith_type1 (thn (ha pos pins s σ H _ I h) fun us s1 ⟨vs, H1, I1, r1, q1⟩ => ?_) hs hpl))
  obtain ⟨a, b, xs, ys, ex, hqx, hqy, q⟩ := q1
  subst ex
  cases r1 with
  | cons r rr =>
    cases rr with
    | cons r' rr =>
      cases rr
      cases r
      cases r'
      obtain ⟨its, rv, p1, _⟩ := I1.list hqx
      obtain ⟨its2, rv2, p2, _⟩ := I1.list hqy
      have la : a < s1.heap.objs.size := p1.lt
      have lb : b < s1.heap.objs.size := p2.lt
      refine call_zip_2 p1.isList p2.isList fun h' hz hTI hTO h1 h2 hsz hk => wpAny_pyIter_zip hz ?_
      have I2 : Inv X pins σ H1 { s1 with heap := h' } := I1.kept (t' := s1.toks) hk
      refine ⟨s1.heap.objs.size + 4, [s1.heap.objs.size + 4, s1.heap.objs.size + 2, s1.heap.objs.size + 3, s1.heap.objs.size, s1.heap.objs.size + 1], _, _, H1, rfl, I2, turn_zip (PySem.W.ktu_apart s1.heap.objs.size a b la lb), ⟨hz, hTI, ⟨_, _, hTO⟩, h1, h2⟩, fun c hcm => ?_, q⟩
      have e' : c = s1.heap.objs.size + 4 ∨ c = s1.heap.objs.size + 2 ∨ c = s1.heap.objs.size + 3 ∨ c = s1.heap.objs.size ∨ c = s1.heap.objs.size + 1 := by simpa using hcm
      have hle : s1.heap.objs.size ≤ c := by
        rcases e' with z | z | z | z | z
        · rw [z]; exact Nat.le_add_right _ _
        · rw [z]; exact Nat.le_add_right _ _
        · rw [z]; exact Nat.le_add_right _ _
        · rw [z]; exact Nat.le_refl _
        · rw [z]; exact Nat.le_add_right _ _
      exact I1.fpOk hle (I1.hok.fresh hle)
end L2
section 
namespace Bits
open PySem PyProof.Rows
end Bits
end 
section 
namespace TL
open PySem PySem.Builtin PySem.Builtin.Str PySem.StrLaws
end TL
end 
namespace L2
open PySem PySem.Spec PyProof.Rows
section
variable {X : Cx} {pins : List (Addr × Obj)} {σ : St} {H : Hp} {s : Shared} {Q : VK}
end
section
variable {X : Cx}
end
section
variable {X : Cx} {o e : Expr} {to te : TE}
end
end L2
namespace L2
open PySem PySem.Spec PyProof.Rows
section
variable {X : Cx}
end
end L2
namespace Att
open PySem PySem.W PySem.Calls PyProof.Rows
section
variable {prog : Program} {w : World} {A : Around} {E : Value → Shared → Prop} {s : Shared} {K : Frag}
end
end Att
namespace L2
open PySem PySem.Spec PyProof.Rows
end L2
namespace L2
open PySem PySem.Spec PyProof.Rows
end L2
/- THE LAST THEOREM (shape; LID, My.* are yours):
   My.Adr: a structure of the addresses that your layer names (classes, functions); My.Txt K t: a structure (Prop) of the equations over K;
   My.txt_mk : {K} {implicit addresses ..} (e1 : nsIn K mainGlobals "law" = some (some (.ref f))) (e2 : K.lookup f = some ⟨oc, od, .func (fnOf "law" "law" params body scope dV kV doc pm an cdv ct), sl⟩) (e3 : codeIn K cdv "law" = true) .. : ∃ t, My.Txt K t
set_option maxRecDepth 100000 in
set_option maxHeartbeats 0 in
theorem PySem.Challenge.cw_LID_holds : PySem.Challenge.rw_LID.Holds := by
  w_on; o_law; k_head; (case hw => w_witness2)
  k_fill
  refine L2.walk_of (l := PySem.Challenge.rw_LID) (n := 63) (k := 40) (x := "script") (CX := fun w => ..) (sp := fun _ => My.sp_law) rfl (by decide) rfl ⟨rfl, by decide, by decide⟩ (fun w h Y => PySem.W.kIn_of Y) ?F ?S ?C
  case F =>
    intro w mg fa h KX G hmg
    have T : ∃ t, My.Txt (L2.KOf KX) t := by
      dsimp only [L2.KOf]                          -- K must stand as «<heap const> w.params» for k_is
      refine' My.txt_mk ?e1 ?e2 ?e3 ..
      (case e1 => PySem.W.k_is)                    -- in the order: a name -> its address -> its object -> its parts
      (case e2 => PySem.W.k_is)
      ..
    obtain ⟨t, T⟩ := T
    have e0 := hmg.symm.trans (PySem.W.mg_of KX G T.law)
    cases e0                                       -- fa is the law's own address
    exact ⟨_, fun s u => .of_eq rfl, fun base kb nb => My.law_fn T kb nb⟩     -- if «.of_eq rfl» comes too early: refine' ⟨_, ?b, fun base kb nb => My.law_fn T kb nb⟩; exact fun s u => .of_eq rfl
  case S => exact fun w H a ns hl hO hS => ..
  case C => exact ..
(the tactic k_is has no namespace: write k_is) -/
namespace L2
open PySem PySem.Spec PyProof.Rows
/-- the j-th statement of a class's body -/
def inClass (s : Stmt) (j : Nat) : Stmt := match s with
  | .ClassDef _ _ _ body _ _ _ _ _ _ _ => body.getD j (.Pass ⟨0, 0, 0, 0⟩)
  | _ => .Pass ⟨0, 0, 0, 0⟩
def defArgs (s : Stmt) : Arguments := match s with
  | .FunctionDef _ a _ _ _ _ _ _ _ _ => a
  | _ => { posonlyargs := [], args := [], vararg := none, kwonlyargs := [], kw_defaults := [], kwarg := none, defaults := [] }
def defBody (s : Stmt) : List Stmt := match s with
  | .FunctionDef _ _ b _ _ _ _ _ _ _ => b
  | _ => []
def defScope (s : Stmt) : Scope := match s with
  | .FunctionDef _ _ _ _ _ _ sc _ _ _ => sc
  | _ => { kind := .function, names := [], isGenerator := false, isCoroutine := false }
abbrev CX0 : CXT := fun _ _ _ _ _ _ => False
abbrev E0 : XK := fun _ _ _ => False
theorem pass0 {X : Cx} : Passes CX0 X E0 := fun _ _ _ _ _ _ _ h => h.elim
structure Fun (K : PySem.W.Frag) (x qual : Str) (st : Stmt) (f : Addr) (fd : FuncData) : Prop where
  ex : ∃ (oc : Value) (od : Option Addr) (kV doc pm : Value) (an : Option Addr) (cdv ct : Value) (osl : Array (Option Value)),
    fd = PySem.W.fnOf x qual (defArgs st) (defBody st) (defScope st) .none kV doc pm an cdv ct ∧ K.lookup f = some ⟨oc, od, .func fd, osl⟩ ∧ PySem.W.codeIn K cdv qual = true
  kp : PySem.W.keepIn K (.ref f) = true
section
variable {P : Program} {w : World} {K : PySem.W.Frag} {mg : Str → Option Value} {base : Heap}
/-- THE RULE for a def: its body as a term of rules, and the reading of that term -/
theorem Fun.ok {x qual : Str} {st : Stmt} {f : Addr} {fd : FuncData} {N ps : List Str} {k : Nat} {sp : Sp} (F : Fun K x qual st f fd) (S : FnScope N ps (defScope st)) (len : ∀ vs H Q E, sp vs H Q E → vs.length = ps.length)
    (hbody : ∀ (cdv : Value) (A : Around) (outer : List Env) (s : Shared) (H : Hp) (vs : List V) (Q : VK) (E : XK), Room k (A.deeper (envOfC qual (defScope st) s.heap.objs.size f cdv)) → sp vs H Q E →
      ∃ t, PSs (cxOf CX0 P w K mg base N qual (defScope st) f cdv A outer s H E).nox (defBody st) t ∧ t { nx := fun _ H' => Q .non H', rt := Q } (start N vs) H) : FnOk P w K mg base CX0 (k + 1) f fd ps sp := by
  obtain ⟨oc, od, kV, doc, pm, an, cdv, ct, osl, rfl, lk, hcd⟩ := F.ex
  refine fn_of lk hcd S len fun A outer s H vs Q E hr hsp => ?_
  obtain ⟨t, h, q⟩ := hbody cdv A outer s H vs Q E hr hsp
  exact ⟨t, h.nox, q⟩
/-- how its arguments bind (no defaults): h is «fun _ _ _ _ _ _ us hl => match us, hl with | [_, _], _ => rfl», one _ a parameter -/
theorem Fun.binds {x qual : Str} {st : Stmt} {f : Addr} {fd : FuncData} {ps : List Str} (F : Fun K x qual st f fd)
    (h : ∀ (kV doc pm : Value) (an : Option Addr) (cdv ct : Value) (us : List Value), us.length = ps.length → bindArgs (PySem.W.fnOf x qual (defArgs st) (defBody st) (defScope st) .none kV doc pm an cdv ct) ⟨us, []⟩ = pure (ps.zip us)) : Binds K fd ps [] := by
  obtain ⟨oc, od, kV, doc, pm, an, cdv, ct, osl, rfl, lk, hcd⟩ := F.ex
  exact .all (h kV doc pm an cdv ct)
theorem fun_mk {x qual : Str} {st : Stmt} {f : Addr} {oc : Value} {od an : Option Addr} {osl : Array (Option Value)} {kV doc pm cdv ct : Value} (l : K.lookup f = some ⟨oc, od, .func (PySem.W.fnOf x qual (defArgs st) (defBody st) (defScope st) .none kV doc pm an cdv ct), osl⟩)
    (c : PySem.W.codeIn K cdv qual = true) (k : PySem.W.keepIn K (.ref f) = true) : Fun K x qual st f (PySem.W.fnOf x qual (defArgs st) (defBody st) (defScope st) .none kV doc pm an cdv ct) := ⟨⟨oc, od, kV, doc, pm, an, cdv, ct, osl, rfl, l, c⟩, k⟩
end
section
variable {X : Cx}
theorem pv (i : Nat) {x : Str} {pos : Pos} (hN : X.N[i]? = some x := by rfl) (hv : Vis X.env.scope x := by first | exact Or.inl rfl | exact Or.inr (Or.inl rfl) | exact Or.inr (Or.inr rfl)) (hd : (x == ("__debug__" : Str)) = false := by decide)
    (hcd : (x == ("__classdict__" : Str)) = false := by decide) : PE X (.Name x pos) (tVar i) := pe_var hN hv hd hcd
end
theorem iteF {A B : Prop} (h : B) : if false = true then A else B := by
  rw [if_neg Bool.false_ne_true]
  exact h
theorem iteT {A B : Prop} (h : A) : if true = true then A else B := by
  rw [if_pos rfl]
  exact h
theorem ite2 {c A B : Prop} [Decidable c] (h1 : c → A) (h2 : ¬ c → B) : if c then A else B := by
  by_cases h : c
  · rw [if_pos h]
    exact h1 h
  · rw [if_neg h]
    exact h2 h
/-- all that was tracked is as it was -/
def Same (H H' : Hp) : Prop := ∀ b o, H b = some o → H' b = some o
theorem Same.trans {H H1 H2 : Hp} (a : Same H H1) (b : Same H1 H2) : Same H H2 := fun c o h => b c o (a c o h)
theorem Same.free {H H' : Hp} (e : Same H H') {l : Addr} (h : H' l = Option.none) : H l = Option.none := by
  cases q : H l with
  | none => rfl
  | some o =>
    rw [e l o q] at h
    cases h
theorem Same.seq {K : PySem.W.Frag} {H H' : Hp} {a : Addr} {xs : List V} (e : Same H H') (h : SqL K H a xs) : SqL K H' a xs := by
  rcases h with (h | ⟨o, h⟩) | h
  · exact .inl (.inl (e _ _ h))
  · exact .inl (.inr ⟨o, e _ _ h⟩)
  · exact .inr h
section
variable {κ : Type} [DecidableEq κ]
end
theorem at_of {xs : List V} {z : Int} {j : Nat} {v : V} (e : z = (j : Int)) (h : xs[j]? = some v) : atI xs z = some v := by
  rw [e]
  exact atI_nat h
end L2
end
section
section
set_option maxRecDepth 100000
set_option maxHeartbeats 2000000
namespace L2
open PySem PySem.Spec PyProof.Rows
open PySem.W (WData Codec OpenSpec Well WellAll ReadsW ReadsAllW)
/-! ### an answer as data -/
mutual
/-- x stands for the datum d, lists and tuples all the way -/
inductive Dw (K : PySem.W.Frag) (H : Hp) : V → WData → Prop
  | non : Dw K H .non .none
  | bl (b : Bool) : Dw K H (.bl b) (.bool b)
  | int (i : Int) : Dw K H (.int i) (.int i)
  | str (x : Str) : Dw K H (.str x) (.str x)
  | byt (b : Array UInt8) : Dw K H (.byt b) (.bytes b.toList)
  | lst {a : Addr} {xs : List V} {ds : List WData} : SqL K H a xs → DwAll K H xs ds → Dw K H (.ref a) (.list ds)
  | tup {a : Addr} {xs : List V} {ds : List WData} : SqT K H a xs → DwAll K H xs ds → Dw K H (.ref a) (.tuple ds)
inductive DwAll (K : PySem.W.Frag) (H : Hp) : List V → List WData → Prop
  | nil : DwAll K H [] []
  | cons {v : V} {vs : List V} {d : WData} {ds : List WData} : Dw K H v d → DwAll K H vs ds → DwAll K H (v :: vs) (d :: ds)
end
theorem dw_ints {K : PySem.W.Frag} {H : Hp} : ∀ ns : List Int, DwAll K H (ns.map V.int) (ns.map WData.int)
  | [] => .nil
  | n :: r => .cons (.int n) (dw_ints r)
theorem ints_dw {K : PySem.W.Frag} {H : Hp} : ∀ (ns : List Int) (xs : List V), DwAll K H xs (ns.map WData.int) → xs = ns.map V.int
  | [], xs, h => by
    cases h
    rfl
  | n :: r, xs, h => by
    cases h with
    | cons h1 h2 =>
      cases h1
      rw [ints_dw r _ h2] <;> rfl
section
variable {P : Program} {w : World} {K : PySem.W.Frag} {H : Hp} {h : Heap} {R : PySem.W.WRecords} {cl : Str → Option Addr}
theorem sqL_at {a : Addr} {xs : List V} (hok : HOk P w H h) (KX : K.In h) (q : SqL K H a xs) : ∃ (its : List Value) (o : Obj) (n : Nat), Vals xs its ∧ h.get? a = some o ∧ o.cls = .type "list" ∧ o.data = .seq its.toArray n := by
  rcases q with q | ⟨o, its, n, e, hc, _, hd, _, hv⟩
  · obtain ⟨_, its, n, hv, e⟩ := (show ObjOk P w H h a (.lst xs) from q.ok hok)
    exact ⟨its, _, n, hv, e, rfl, rfl⟩
  · exact ⟨its.toList, o, n, hv, KX _ _ e, hc, by simp [hd]⟩
theorem sqT_at {a : Addr} {xs : List V} (hok : HOk P w H h) (KX : K.In h) (q : SqT K H a xs) : ∃ (its : List Value) (o : Obj) (n : Nat), Vals xs its ∧ h.get? a = some o ∧ o.cls = .type "tuple" ∧ o.data = .seq its.toArray n := by
  rcases q with q | ⟨o, its, n, e, hc, hd, _, hv⟩
  · obtain ⟨_, its, hv, o, e, hc, n, hd⟩ := (show ObjOk P w H h a (.tup xs) from q.ok hok)
    exact ⟨its, o, n, hv, e, hc, hd⟩
  · exact ⟨its.toList, o, n, hv, KX _ _ e, hc, by simp [hd]⟩
mutual
theorem Dw.reads (hok : HOk P w H h) (KX : K.In h) : ∀ (d : WData) (v : V) (u : Value), Dw K H v d → RelV v u → ∃ as, ReadsW R cl h u d as
  | .none, _, _, x, r => by
    cases x
    cases r
    exact ⟨_, ReadsW.none⟩
  | .bool b, _, _, x, r => by
    cases x
    cases r
    exact ⟨_, ReadsW.bool b⟩
  | .int i, _, _, x, r => by
    cases x
    obtain ⟨t, rfl⟩ := r
    exact ⟨_, ReadsW.int i t⟩
  | .str s, _, _, x, r => by
    cases x
    obtain ⟨t, rfl⟩ := r
    exact ⟨_, ReadsW.str s t⟩
  | .bytes b, _, _, x, r => by
    cases x
    obtain ⟨t, rfl⟩ := r
    exact ⟨_, ReadsW.bytes _ t⟩
  | .list ds, _, _, x, r => by
    cases x with
    | lst hs ha =>
      cases r
      obtain ⟨its, o, n, rv, ho, hc, hd⟩ := sqL_at hok KX hs
      obtain ⟨as, hr⟩ := Dw.readsAll hok KX ds _ its ha rv
      exact ⟨_, ReadsW.list ho hc hd hr⟩
  | .tuple ds, _, _, x, r => by
    cases x with
    | tup hs ha =>
      cases r
      obtain ⟨its, o, n, rv, ho, hc, hd⟩ := sqT_at hok KX hs
      obtain ⟨as, hr⟩ := Dw.readsAll hok KX ds _ its ha rv
      exact ⟨_, ReadsW.tuple ho hc hd hr⟩
  | .float _, _, _, x, _ => by cases x
  | .dict _, _, _, x, _ => by cases x
  | .bytearray _, _, _, x, _ => by cases x
  | .set _, _, _, x, _ => by cases x
  | .frozenset _, _, _, x, _ => by cases x
  | .obj _ _, _, _, x, _ => by cases x
theorem Dw.readsAll (hok : HOk P w H h) (KX : K.In h) : ∀ (ds : List WData) (vs : List V) (us : List Value), DwAll K H vs ds → Vals vs us → ∃ as, ReadsAllW R cl h us ds as
  | [], _, _, x, r => by
    cases x
    cases r
    exact ⟨_, ReadsAllW.nil⟩
  | d :: ds, _, _, x, r => by
    cases x with
    | cons h1 h2 =>
      cases r with
      | cons r1 r2 =>
        obtain ⟨as, q1⟩ := Dw.reads hok KX d _ _ h1 r1
        obtain ⟨bs, q2⟩ := Dw.readsAll hok KX ds _ _ h2 r2
        exact ⟨_, ReadsAllW.cons q1 q2⟩
end
end
/-! ### the arguments -/
mutual
/-- data that a codec tells -/
def plW : WData → Bool
  | .none => true
  | .bool _ => true
  | .int _ => true
  | .str _ => true
  | .bytes _ => true
  | .list xs => plWs xs
  | .tuple xs => plWs xs
  | _ => false
def plWs : List WData → Bool
  | [] => true
  | x :: r => plW x && plWs r
end
theorem plWs_map {α : Type} {f : α → WData} (h : ∀ a, plW (f a) = true) : ∀ l : List α, plWs (l.map f) = true
  | [] => rfl
  | x :: r => by
    show (plW (f x) && plWs (r.map f)) = true
    rw [h x, plWs_map h r] <;> rfl
theorem pl_enc : ∀ (c : Codec) (a : c.denote), plW (c.enc a) = true
  | .unit, _ => rfl
  | .bool, _ => rfl
  | .int _ _, _ => rfl
  | .nat _ _, _ => rfl
  | .u8, _ => rfl
  | .bytes _ _, _ => rfl
  | .text _ _ _ _, _ => rfl
  | .list _ _ c, a => plWs_map (fun x => pl_enc c x) a
  | .pair c d, a => by
    show (plW (c.enc a.1) && (plW (d.enc a.2) && true)) = true
    rw [pl_enc c a.1, pl_enc d a.2] <;> rfl
  | .triple c d e, a => by
    show (plW (c.enc a.1) && (plW (d.enc a.2.1) && (plW (e.enc a.2.2) && true))) = true
    rw [pl_enc c a.1, pl_enc d a.2.1, pl_enc e a.2.2] <;> rfl
  | .option c, none => rfl
  | .option c, some x => pl_enc c x
theorem pl_encAll : ∀ (cs : List Codec) (a : Codec.denoteAll cs), plWs (Codec.encAll cs a) = true
  | [], _ => rfl
  | c :: cs, a => by
    show (plW (c.enc a.1) && plWs (Codec.encAll cs a.2)) = true
    rw [pl_enc c a.1, pl_encAll cs a.2] <;> rfl
theorem weight_mem : ∀ {xs : List WData} {d : WData}, d ∈ xs → d.weight ≤ WData.weightAll xs
  | [], d, h => absurd h (by simp)
  | x :: r, d, h => by
    show d.weight ≤ x.weight + 1 + WData.weightAll r
    rcases List.mem_cons.mp h with e | m
    · rw [e]
      omega
    · have z := weight_mem m
      omega
def toV : Value → V
  | .none => .non
  | .bool b => .bl b
  | .int i _ => .int i
  | .str x _ => .str x
  | .bytes b _ => .byt b
  | .ref a => .ref a
  | _ => .non
/-- a value of the arguments, its objects among A -/
def OkU (A : List Addr) : Value → Prop
  | .none => True
  | .bool _ => True
  | .int _ _ => True
  | .str _ _ => True
  | .bytes _ _ => True
  | .ref a => a ∈ A
  | _ => False
theorem OkU.mono {A B : List Addr} (h : ∀ a ∈ A, a ∈ B) : ∀ {u : Value}, OkU A u → OkU B u := fun {u} x => by
  cases u with
  | ref a => exact h a x
  | none => trivial
  | bool b => trivial
  | int i t => trivial
  | str s t => trivial
  | bytes b t => trivial
  | _ => exact False.elim x
theorem relV_toV {A : List Addr} {u : Value} (x : OkU A u) : RelV (toV u) u := by
  cases u with
  | ref a => rfl
  | none => rfl
  | bool b => rfl
  | int i t => exact ⟨t, rfl⟩
  | str s t => exact ⟨t, rfl⟩
  | bytes b t => exact ⟨t, rfl⟩
  | _ => exact False.elim x
theorem vals_toV {A : List Addr} : ∀ {vs : List Value}, (∀ u ∈ vs, OkU A u) → Vals (vs.map toV) vs
  | [], _ => .nil
  | u :: r, h => .cons (relV_toV (h u (List.mem_cons_self ..))) (vals_toV fun x hx => h x (List.mem_cons_of_mem _ hx))
/-- an object of the arguments -/
def ArgOb (h : Heap) (A : List Addr) (a : Addr) : Prop := ∃ vs : List Value, vs.length ≤ sizeLine ∧ (∀ u ∈ vs, OkU A u) ∧
  (h.get? a = some { cls := .type "list", data := .seq vs.toArray } ∨ h.get? a = some { cls := .type "tuple", data := .seq vs.toArray })
theorem ArgOb.mono {h : Heap} {A B : List Addr} {a : Addr} (k : ∀ a ∈ A, a ∈ B) (x : ArgOb h A a) : ArgOb h B a := by
  obtain ⟨vs, h1, h2, h3⟩ := x
  exact ⟨vs, h1, fun u hu => (h2 u hu).mono k, h3⟩
theorem wellAll_len {P : Params} {h : Heap} : ∀ {vs : List Value} {ds : List WData}, WellAll P h vs ds → vs.length = ds.length
  | _, _, .nil => rfl
  | _, _, .cons _ b => by
    show _ + 1 = _ + 1
    rw [wellAll_len b]
theorem well_list {P : Params} {h : Heap} {v : Value} {ds : List WData} (x : Well P h v (.list ds)) : ∃ (a : Addr) (vs : List Value), v = .ref a ∧ h.get? a = some { cls := .type "list", data := .seq vs.toArray } ∧ WellAll P h vs ds := by
  cases x with
  | list ho hall => exact ⟨_, _, rfl, ho, hall⟩
theorem well_tuple {P : Params} {h : Heap} {v : Value} {ds : List WData} (x : Well P h v (.tuple ds)) : ∃ (a : Addr) (vs : List Value), v = .ref a ∧ h.get? a = some { cls := .type "tuple", data := .seq vs.toArray } ∧ WellAll P h vs ds := by
  cases x with
  | tuple ho hall => exact ⟨_, _, rfl, ho, hall⟩
theorem well_cons {P : Params} {h : Heap} {us : List Value} {d : WData} {ds : List WData} (x : WellAll P h us (d :: ds)) : ∃ (v : Value) (vs : List Value), us = v :: vs ∧ Well P h v d ∧ WellAll P h vs ds := by
  cases x with
  | cons a b => exact ⟨_, _, rfl, a, b⟩
theorem line_of {n : Nat} (h : n ≤ 1048576) : n ≤ sizeLine := Nat.le_trans h (by decide)
section
variable {P : Params} {h : Heap}
mutual
theorem area_one : ∀ (d : WData) (v : Value), Well P h v d → plW d = true → d.weight ≤ 1048576 → ∃ A : List Addr, OkU A v ∧ ∀ a ∈ A, ArgOb h A a
  | .none, _, x, _, _ => by
    cases x
    exact ⟨[], trivial, fun a m => absurd m (by simp)⟩
  | .bool b, _, x, _, _ => by
    cases x
    exact ⟨[], trivial, fun a m => absurd m (by simp)⟩
  | .int i, _, x, _, _ => by
    cases x
    exact ⟨[], trivial, fun a m => absurd m (by simp)⟩
  | .str s, _, x, _, _ => by
    cases x
    exact ⟨[], trivial, fun a m => absurd m (by simp)⟩
  | .bytes b, _, x, _, _ => by
    cases x
    exact ⟨[], trivial, fun a m => absurd m (by simp)⟩
  | .list ds, _, x, p, z => by
    obtain ⟨a, vs, rfl, ho, hall⟩ := well_list x
    have z2 : WData.weightAll ds ≤ 1048576 := z
    obtain ⟨A, h1, h2⟩ := area_all ds _ hall p fun d hd => Nat.le_trans (weight_mem hd) z2
    have k : ∀ b ∈ A, b ∈ a :: A := fun b hb => List.mem_cons_of_mem _ hb
    refine ⟨a :: A, List.mem_cons_self .., fun b hb => ?_⟩
    rcases List.mem_cons.mp hb with e | m
    · rw [e]
      exact ⟨vs, line_of (by rw [wellAll_len hall]; exact Nat.le_trans (PySem.W.length_le_weightAllW ds) z2), fun u hu => (h1 u hu).mono k, .inl ho⟩
    · exact (h2 b m).mono k
  | .tuple ds, _, x, p, z => by
    obtain ⟨a, vs, rfl, ho, hall⟩ := well_tuple x
    have z2 : WData.weightAll ds ≤ 1048576 := z
    obtain ⟨A, h1, h2⟩ := area_all ds _ hall p fun d hd => Nat.le_trans (weight_mem hd) z2
    have k : ∀ b ∈ A, b ∈ a :: A := fun b hb => List.mem_cons_of_mem _ hb
    refine ⟨a :: A, List.mem_cons_self .., fun b hb => ?_⟩
    rcases List.mem_cons.mp hb with e | m
    · rw [e]
      exact ⟨vs, line_of (by rw [wellAll_len hall]; exact Nat.le_trans (PySem.W.length_le_weightAllW ds) z2), fun u hu => (h1 u hu).mono k, .inr ho⟩
    · exact (h2 b m).mono k
  | .float _, _, _, p, _ => Bool.noConfusion (show false = true from p)
  | .dict _, _, _, p, _ => Bool.noConfusion (show false = true from p)
  | .bytearray _, _, _, p, _ => Bool.noConfusion (show false = true from p)
  | .set _, _, _, p, _ => Bool.noConfusion (show false = true from p)
  | .frozenset _, _, _, p, _ => Bool.noConfusion (show false = true from p)
  | .obj _ _, _, _, p, _ => Bool.noConfusion (show false = true from p)
theorem area_all : ∀ (ds : List WData) (vs : List Value), WellAll P h vs ds → plWs ds = true → (∀ d ∈ ds, d.weight ≤ 1048576) → ∃ A : List Addr, (∀ u ∈ vs, OkU A u) ∧ ∀ a ∈ A, ArgOb h A a
  | [], _, x, _, _ => by
    cases x
    exact ⟨[], fun u m => absurd m (by simp), fun a m => absurd m (by simp)⟩
  | d :: ds, _, x, p, z => by
    obtain ⟨v, vs, rfl, x1, x2⟩ := well_cons x
    have q : plW d = true ∧ plWs ds = true := Bool.and_eq_true_iff.mp p
    obtain ⟨A, a1, a2⟩ := area_one d v x1 q.1 (z d (List.mem_cons_self ..))
    obtain ⟨B, b1, b2⟩ := area_all ds vs x2 q.2 fun e he => z e (List.mem_cons_of_mem _ he)
    have kA : ∀ b ∈ A, b ∈ A ++ B := fun b hb => List.mem_append.mpr (.inl hb)
    have kB : ∀ b ∈ B, b ∈ A ++ B := fun b hb => List.mem_append.mpr (.inr hb)
    refine ⟨A ++ B, fun u hu => ?_, fun b hb => ?_⟩
    · rcases List.mem_cons.mp hu with e | m
      · rw [e]
        exact a1.mono kA
      · exact (b1 u m).mono kB
    · rcases List.mem_append.mp hb with m | m
      · exact (a2 b m).mono kA
      · exact (b2 b m).mono kB
end
end
/-- what is tracked of an argument's object -/
def hoOf (o : Obj) : Option HO := match o.data with
  | .seq vs _ => if (o.cls == Value.type "list") = true then some (.frz o (.lst (vs.toList.map toV))) else some (.frz o (.tup (vs.toList.map toV)))
  | _ => none
def argH (K : PySem.W.Frag) (h : Heap) (A : List Addr) : Hp := fun b => if b ∈ A then (if (K.lookup b).isNone = true then (h.get? b).bind hoOf else none) else none
/-- nothing is tracked but what is known to the object -/
def OnlyF (H : Hp) : Prop := ∀ b, H b = none ∨ ∃ o u, H b = some (.frz o u)
theorem hoOf_lst (vs : List Value) : hoOf { cls := .type "list", data := .seq vs.toArray } = some (.frz { cls := .type "list", data := .seq vs.toArray } (.lst (vs.map toV))) := by
  show (if (Value.type "list" == Value.type "list") = true then some (HO.frz { cls := .type "list", data := .seq vs.toArray } (.lst (vs.toArray.toList.map toV))) else some (HO.frz { cls := .type "list", data := .seq vs.toArray } (.tup (vs.toArray.toList.map toV)))) = _
  rw [if_pos (beq_self_eq_true _)]
theorem hoOf_tup (vs : List Value) : hoOf { cls := .type "tuple", data := .seq vs.toArray } = some (.frz { cls := .type "tuple", data := .seq vs.toArray } (.tup (vs.map toV))) := by
  show (if (Value.type "tuple" == Value.type "list") = true then some (HO.frz { cls := .type "tuple", data := .seq vs.toArray } (.lst (vs.toArray.toList.map toV))) else some (HO.frz { cls := .type "tuple", data := .seq vs.toArray } (.tup (vs.toArray.toList.map toV)))) = _
  rw [if_neg (by decide)]
section
variable {P : Program} {w : World} {K : PySem.W.Frag} {h : Heap} {A : List Addr}
theorem argH_at {b : Addr} {o : Obj} (hb : b ∈ A) (hk : K.lookup b = none) (e : h.get? b = some o) : argH K h A b = hoOf o := by
  unfold argH
  rw [if_pos hb, hk, if_pos (show (none : Option Obj).isNone = true from rfl), e] <;> rfl
theorem of_argH {b : Addr} {u : HO} (q : argH K h A b = some u) : b ∈ A ∧ K.lookup b = none := by
  unfold argH at q
  by_cases hb : b ∈ A
  · rw [if_pos hb] at q
    cases hk : K.lookup b with
    | none => exact ⟨hb, rfl⟩
    | some o =>
      rw [hk, if_neg (by simp)] at q
      cases q
  · rw [if_neg hb] at q
    cases q
/-- what stands tracked -/
theorem argH_is (ar : ∀ a ∈ A, ArgOb h A a) {b : Addr} {u : HO} (q : argH K h A b = some u) : K.lookup b = none ∧ ∃ vs : List Value, vs.length ≤ sizeLine ∧ (∀ u ∈ vs, OkU A u) ∧
    ((h.get? b = some { cls := .type "list", data := .seq vs.toArray } ∧ u = .frz { cls := .type "list", data := .seq vs.toArray } (.lst (vs.map toV))) ∨
     (h.get? b = some { cls := .type "tuple", data := .seq vs.toArray } ∧ u = .frz { cls := .type "tuple", data := .seq vs.toArray } (.tup (vs.map toV)))) := by
  obtain ⟨hb, hk⟩ := of_argH q
  obtain ⟨vs, h1, h2, h3⟩ := ar b hb
  refine ⟨hk, vs, h1, h2, ?_⟩
  rcases h3 with e | e
  · rw [argH_at hb hk e, hoOf_lst] at q
    exact .inl ⟨e, (Option.some.inj q).symm⟩
  · rw [argH_at hb hk e, hoOf_tup] at q
    exact .inr ⟨e, (Option.some.inj q).symm⟩
theorem argH_only (ar : ∀ a ∈ A, ArgOb h A a) : OnlyF (argH K h A) := fun b => by
  cases q : argH K h A b with
  | none => exact .inl rfl
  | some u =>
    obtain ⟨_, vs, _, _, ⟨_, e⟩ | ⟨_, e⟩⟩ := argH_is ar q
    · exact .inr ⟨_, _, by rw [e]⟩
    · exact .inr ⟨_, _, by rw [e]⟩
theorem argH_ok (ar : ∀ a ∈ A, ArgOb h A a) : HOk P w (argH K h A) h := fun b u q => by
  obtain ⟨_, vs, h1, h2, ⟨e, rfl⟩ | ⟨e, rfl⟩⟩ := argH_is ar q
  · exact ⟨e, by rw [List.length_map]; exact h1, vs, _, vals_toV h2, e⟩
  · exact ⟨e, by rw [List.length_map]; exact h1, vs, vals_toV h2, _, e, rfl, _, rfl⟩
theorem seq_inj {c c' : Value} {vs us : List Value} (e : (some { cls := c, data := .seq vs.toArray } : Option Obj) = some { cls := c', data := .seq us.toArray }) : c = c' ∧ vs = us := by
  have e1 := Option.some.inj e
  have e2 : c = c' := congrArg Obj.cls e1
  have e3 : Data.seq vs.toArray = Data.seq us.toArray := congrArg Obj.data e1
  injection e3 with e4
  refine ⟨e2, ?_⟩
  have e5 := congrArg Array.toList e4
  simpa using e5
/-- a list argument -/
theorem argL (KX : K.In h) (ar : ∀ a ∈ A, ArgOb h A a) {a : Addr} {vs : List Value} (ha : a ∈ A) (e : h.get? a = some { cls := .type "list", data := .seq vs.toArray }) : (∀ u ∈ vs, OkU A u) ∧ SqL K (argH K h A) a (vs.map toV) := by
  obtain ⟨us, h1, h2, h3⟩ := ar a ha
  have hu : us = vs := by
    rcases h3 with q | q
    · rw [e] at q
      exact (seq_inj q).2.symm
    · rw [e] at q
      exact absurd (Value.type.inj (seq_inj q).1) (by decide)
  subst hu
  refine ⟨h2, ?_⟩
  cases hk : K.lookup a with
  | none => exact .inl (.inr ⟨_, by rw [argH_at ha hk e, hoOf_lst]⟩)
  | some o =>
    have e2 := KX a o hk
    rw [e] at e2
    obtain rfl := Option.some.inj e2
    exact .inr ⟨_, us.toArray, _, hk, rfl, rfl, rfl, by rw [List.size_toArray]; exact h1, by simpa using vals_toV h2⟩
theorem argT (KX : K.In h) (ar : ∀ a ∈ A, ArgOb h A a) {a : Addr} {vs : List Value} (ha : a ∈ A) (e : h.get? a = some { cls := .type "tuple", data := .seq vs.toArray }) : (∀ u ∈ vs, OkU A u) ∧ SqT K (argH K h A) a (vs.map toV) := by
  obtain ⟨us, h1, h2, h3⟩ := ar a ha
  have hu : us = vs := by
    rcases h3 with q | q
    · rw [e] at q
      exact absurd (Value.type.inj (seq_inj q).1) (by decide)
    · rw [e] at q
      exact (seq_inj q).2.symm
  subst hu
  refine ⟨h2, ?_⟩
  cases hk : K.lookup a with
  | none => exact .inl (.inr ⟨_, by rw [argH_at ha hk e, hoOf_tup]⟩)
  | some o =>
    have e2 := KX a o hk
    rw [e] at e2
    obtain rfl := Option.some.inj e2
    exact .inr ⟨_, us.toArray, _, hk, rfl, rfl, by rw [List.size_toArray]; exact h1, by simpa using vals_toV h2⟩
mutual
theorem dw_one {Pm : Params} (KX : K.In h) (ar : ∀ a ∈ A, ArgOb h A a) : ∀ (d : WData) (v : Value), Well Pm h v d → plW d = true → OkU A v → Dw K (argH K h A) (toV v) d
  | .none, _, x, _, _ => by
    cases x
    exact .non
  | .bool b, _, x, _, _ => by
    cases x
    exact .bl b
  | .int i, _, x, _, _ => by
    cases x
    exact .int i
  | .str s, _, x, _, _ => by
    cases x
    exact .str s
  | .bytes b, _, x, _, _ => by
    cases x
    have z := Dw.byt (K := K) (H := argH K h A) b.toArray
    exact z
  | .list ds, _, x, p, hu => by
    obtain ⟨a, vs, rfl, ho, hall⟩ := well_list x
    obtain ⟨h2, hs⟩ := argL KX ar hu ho
    exact .lst hs (dw_all KX ar ds _ hall p h2)
  | .tuple ds, _, x, p, hu => by
    obtain ⟨a, vs, rfl, ho, hall⟩ := well_tuple x
    obtain ⟨h2, hs⟩ := argT KX ar hu ho
    exact .tup hs (dw_all KX ar ds _ hall p h2)
  | .float _, _, _, p, _ => Bool.noConfusion (show false = true from p)
  | .dict _, _, _, p, _ => Bool.noConfusion (show false = true from p)
  | .bytearray _, _, _, p, _ => Bool.noConfusion (show false = true from p)
  | .set _, _, _, p, _ => Bool.noConfusion (show false = true from p)
  | .frozenset _, _, _, p, _ => Bool.noConfusion (show false = true from p)
  | .obj _ _, _, _, p, _ => Bool.noConfusion (show false = true from p)
theorem dw_all {Pm : Params} (KX : K.In h) (ar : ∀ a ∈ A, ArgOb h A a) : ∀ (ds : List WData) (vs : List Value), WellAll Pm h vs ds → plWs ds = true → (∀ u ∈ vs, OkU A u) → DwAll K (argH K h A) (vs.map toV) ds
  | [], _, x, _, _ => by
    cases x
    exact .nil
  | d :: ds, _, x, p, hu => by
    obtain ⟨v, vs, rfl, x1, x2⟩ := well_cons x
    have q : plW d = true ∧ plWs ds = true := Bool.and_eq_true_iff.mp p
    exact .cons (dw_one KX ar d v x1 q.1 (hu _ (List.mem_cons_self ..))) (dw_all KX ar ds vs x2 q.2 fun u m => hu u (List.mem_cons_of_mem _ m))
end
end
/-! ### the call -/
theorem spec_call {P : Program} {w : World} {K : PySem.W.Frag} {mg mb : Str → Option Value} {CX : CXT} {k : Nat} {fa : Addr} {fd : FuncData} {ps : List Str} {sp : Sp} {s₁ : Shared} {vals : List Value} {ds : List WData} {R : PySem.W.WRecords} {cl : Str → Option Addr} {d0 : WData}
    (KX : K.In s₁.heap) (hns : s₁.heap.Ns mainGlobals mg) (hb : s₁.heap.Ns builtinsNs mb) (hbb : ∀ x : Str, x ≠ "__name__" → mb x = bootBuiltins x) (hlim : s₁.heap.NoLimit) (hg : s₁.gens = #[])
    (hwl : WellAll w.params s₁.heap vals ds) (hpl : plWs ds = true) (hwt : ∀ d ∈ ds, d.weight ≤ 1048576) (hr : Room k callerA)
    (F : ∀ base : Heap, K.In base → base.Ns mainGlobals mg → FnOk P w K mg base CX k fa fd ps sp) (hbind : ∀ (s : Shared) (us : List Value), us.length = ps.length → BindsTo s fd ⟨us, []⟩ (ps.zip us)) (hlen : ds.length = ps.length)
    (hsp : ∀ (H : Hp) (xs : List V), OnlyF H → DwAll K H xs ds → sp xs H (fun v H' => Dw K H' v d0) fun _ _ _ => False)
    (hCX : ∀ H e s', CX [] H s₁ (fun _ _ _ => False) e s' → False) :
    codeAny (model P w) callerA (.call (.ref fa) ⟨vals, []⟩) (fun r s' => ∃ u as, r = .ok (.ret u) ∧ ReadsW R cl s'.heap u d0 as ∧ OldK s₁.heap s'.heap ∧ s'.os = s₁.os ∧ AllBare s'.gens) s₁ := by
  obtain ⟨A, ho, ar⟩ := area_all ds vals hwl hpl hwt
  have hO : OnlyF (argH K s₁.heap A) := argH_only ar
  have hok : HOk P w (argH K s₁.heap A) s₁.heap := argH_ok ar
  have hS := dw_all KX ar ds vals hwl hpl ho
  have hV := vals_toV ho
  have hK : ∀ b u, argH K s₁.heap A b = some u → K.lookup b = none := fun b u q => (argH_is ar q).1
  have noA : ∀ {b : Addr} {o : Obj} {es : Array DictEntry} {ep : Nat}, s₁.heap.get? b = some o → o.data = .dict es ep → argH K s₁.heap A b = none := fun {b o es ep} e d => by
    cases q : argH K s₁.heap A b with
    | none => rfl
    | some u =>
      obtain ⟨_, vs, _, _, ⟨e2, _⟩ | ⟨e2, _⟩⟩ := argH_is ar q
      · rw [e2] at e
        cases e
        have d' : Data.seq vs.toArray _ = Data.dict es ep := d
        cases d'
      · rw [e2] at e
        cases e
        have d' : Data.seq vs.toArray _ = Data.dict es ep := d
        cases d'
  generalize argH K s₁.heap A = H at hO hok hS hK noA
  have base_of : ∀ {b : Addr} {o : Obj}, s₁.heap.get? b = some o → H b = none → (hidT s₁.heap H).get? b = some o := fun e n => hidT_get e n
  have nsK : ∀ {b : Addr} {m : Str → Option Value}, s₁.heap.Ns b m → (hidT s₁.heap H).Ns b m := fun {b m} ⟨o, es, ep, e, d, r⟩ => ⟨o, es, ep, base_of e (noA e d), d, r⟩
  have nK : ∀ b o, K.lookup b = some o → H b = none := fun b o e => by
    cases q : H b with
    | none => rfl
    | some u =>
      rw [hK b u q] at e
      cases e
  have hKb : K.In (hidT s₁.heap H) := fun b o e => base_of (KX b o e) (nK b o e)
  have hM : Mod K mg (hidT s₁.heap H) := ⟨hKb, nsK hns, ⟨mb, nsK hb, hbb⟩, let ⟨mc, h1, h2⟩ := hlim; ⟨mc, nsK h1, h2⟩⟩
  have e0 : Env0 P w K mg (hidT s₁.heap H) callerA [] s₁ H := ⟨rfl, hM, fun b o e => of_hidT e, Nat.le_of_eq (hidT_size _ _), trivial, fun b hb => absurd (show b ∈ ([] : List Addr) from hb) (by simp), hok, .of_eq hg⟩
  have hl : vals.length = ps.length := by rw [wellAll_len hwl]; exact hlen
  refine codeAny_mono ((F _ hKb (nsK hns)).run callerA [] s₁ H ⟨vals, []⟩ vals (vals.map toV) _ _ hr e0 (hbind s₁ vals hl) hV (hsp H _ hO hS)) fun r s' x => ?_
  cases r with
  | error e => exact (hCX H e s' x).elim
  | ok fl =>
    cases fl with
    | next => exact False.elim x
    | brk => exact False.elim x
    | cont => exact False.elim x
    | ret u =>
      obtain ⟨v, H', os, bare, un, hok', r', q⟩ := x
      have kept : ∀ b o, s₁.heap.get? b = some o → s'.heap.get? b = some o := fun b o e => by
        cases q2 : H b with
        | none => exact un.keep b o e q2 (by intro z; exact absurd (show b ∈ ([] : List Addr) from z) (by simp)) (by simp)
        | some u2 =>
          rcases hO b with z | ⟨ob, u3, z⟩
          · rw [q2] at z
            cases z
          · have z2 := un.frzs b ob _ z
            obtain ⟨e1, _⟩ := hok b _ z
            obtain ⟨e2, _⟩ := hok' b _ z2
            rw [e] at e1
            cases e1
            exact e2
      have KX' : K.In s'.heap := fun b o e => kept b o (KX b o e)
      obtain ⟨as, hrd⟩ := Dw.reads (R := R) (cl := cl) hok' KX' d0 v u q r'
      exact ⟨u, as, rfl, hrd, OldK.of_keep kept, os, bare⟩
/-! ### the row -/
theorem layable_weight {ds : List WData} (h : WData.layableAll ds = true) : ∀ d ∈ ds, d.weight ≤ 1048576 := fun d hd =>
  (PySem.W.layableW_iff.mp (List.all_eq_true.mp h d hd)).2.2
theorem encAll_len : ∀ (cs : List Codec) (a : Codec.denoteAll cs), (Codec.encAll cs a).length = cs.length
  | [], _ => rfl
  | c :: cs, a => by
    show (Codec.encAll cs a.2).length + 1 = cs.length + 1
    rw [encAll_len cs a.2]
/-- the goal that k_headS leaves (case hc), from the promise of the row's def: whatever the arguments that the codecs let and the row asks for, the def gives what stands for enc (f ..) -/
theorem walk_spec {r : OpenSpec} {k : Nat} {q : Program} {loose : List Str} {XP : (Str → Option Value) → Heap → Prop} {YP : World → Heap → Prop} {d : DefRec} {K : Params → PySem.W.Frag} {CX : World → CXT} {ps : List Str} {sp : World → Sp}
    (hwell : r.wellSaid = true) (hdf : d.params.defaults = []) (hlen : r.args.length = ps.length) (hr : Room k callerA)
    (hY : ∀ (w : World) (h : Heap), YP w h → (K w.params).In h)
    (F : ∀ (w : World) (mg : Str → Option Value) (fa : Addr) (h : Heap), YP w h → (K w.params).In h → h.Ns mainGlobals mg → mg d.name = some (.ref fa) →
      ∃ fd : FuncData, (∀ (s : Shared) (us : List Value), us.length = ps.length → BindsTo s fd ⟨us, []⟩ (ps.zip us)) ∧
        ∀ base : Heap, (K w.params).In base → base.Ns mainGlobals mg → FnOk r.prog w (K w.params) mg base (CX w) k fa fd ps (sp w))
    (hsp : ∀ (w : World) (H : Hp) (xs : List V) (a : Codec.denoteAll r.args), OnlyF H → Codec.withinAll r.args a = true → Codec.app r.args r.asked a = true → DwAll (K w.params) H xs (Codec.encAll r.args a) →
      sp w xs H (fun v H' => Dw (K w.params) H' v (r.ret.enc (Codec.app r.args r.f a))) fun _ _ _ => False)
    (hCX : ∀ (w : World) (H : Hp) (s : Shared) (e : Value) (s' : Shared), CX w [] H s (fun _ _ _ => False) e s' → False) :
    PySem.W.WalkOS q loose XP YP r d [] (fun f vs => PySem.call f vs) := by
  intro w s_0 s₁ mg mb G Y fa o pm cd doc dV kV ho hd hcd hD hmg hg args vals as hpre hlay hrd hwl hlo
  obtain ⟨a, e1, e2⟩ := PySem.W.os_pre_some hpre
  obtain ⟨e3, hwi⟩ := Codec.encAll_of_decAll r.args args a e1
  subst e3
  have KX := hY w _ Y
  obtain ⟨fd, hb, hF⟩ := F w mg fa _ Y KX G.T.g hmg
  refine PySem.W.enter_call (codeAny_mono (spec_call (R := []) (cl := classAt s_0.heap) (d0 := r.ret.enc (Codec.app r.args r.f a)) KX G.T.g G.T.b G.T.builtins G.T.nolimit hg hwl (pl_encAll _ _) (layable_weight hlay) hr hF hb (by rw [encAll_len]; exact hlen)
    (fun H xs hO hS => hsp w H xs a hO hwi e2 hS) fun H e s' => hCX w H s₁ e s') fun r' s' hq => ?_)
  obtain ⟨u, as', rfl, h1, h2, h3, h4⟩ := hq
  exact ⟨.inl ⟨u, _, as', rfl, fun _ => rfl, h1, (OpenSpec.post_iff hwell hwi _ _).mpr rfl, fun z => Bool.noConfusion (show false = true from z)⟩, h2, h3, h4⟩
/-- the same where the promise hangs on the written part alone -/
theorem walk_specK {r : OpenSpec} {k : Nat} {q : Program} {loose : List Str} {XP : (Str → Option Value) → Heap → Prop} {YP : World → Heap → Prop} {d : DefRec} {K : Params → PySem.W.Frag} {CX : CXT} {ps : List Str} {sp : PySem.W.Frag → Sp}
    (hwell : r.wellSaid = true) (hdf : d.params.defaults = []) (hlen : r.args.length = ps.length) (hr : Room k callerA)
    (hY : ∀ (w : World) (h : Heap), YP w h → (K w.params).In h)
    (F : ∀ (w : World) (mg : Str → Option Value) (fa : Addr) (h : Heap), YP w h → (K w.params).In h → h.Ns mainGlobals mg → mg d.name = some (.ref fa) →
      ∃ fd : FuncData, (∀ (s : Shared) (us : List Value), us.length = ps.length → BindsTo s fd ⟨us, []⟩ (ps.zip us)) ∧
        ∀ base : Heap, (K w.params).In base → base.Ns mainGlobals mg → FnOk r.prog w (K w.params) mg base CX k fa fd ps (sp (K w.params)))
    (hsp : ∀ (K : PySem.W.Frag) (H : Hp) (xs : List V) (a : Codec.denoteAll r.args), OnlyF H → Codec.withinAll r.args a = true → Codec.app r.args r.asked a = true → DwAll K H xs (Codec.encAll r.args a) →
      sp K xs H (fun v H' => Dw K H' v (r.ret.enc (Codec.app r.args r.f a))) fun _ _ _ => False)
    (hCX : ∀ (H : Hp) (s : Shared) (e : Value) (s' : Shared), CX [] H s (fun _ _ _ => False) e s' → False) :
    PySem.W.WalkOS q loose XP YP r d [] (fun f vs => PySem.call f vs) :=
  walk_spec (K := K) (CX := fun _ => CX) (sp := fun w => sp (K w.params)) hwell hdf hlen hr hY F (fun w H xs a h1 h2 h3 h4 => hsp (K w.params) H xs a h1 h2 h3 h4) fun _ H s e s' => hCX H s e s'
end L2
end
end
section
namespace FM
open Vbfuan
/-- a fraction's value -/
def rv (f : Frac) : Rat := mkRat f.num f.den
def fr (q : Rat) : Frac := { num := q.num, den := q.den }
theorem rv_fr (q : Rat) : rv (fr q) = q := Rat.mkRat_self q
theorem least_eq {f : Frac} (h : f.den ≠ 0) : least f = fr (rv f) := by
  unfold least fr rv
  have hg : Nat.gcd f.num.natAbs f.den ≠ 0 := by
    intro e
    exact h (Nat.gcd_eq_zero_iff.mp e).2
  simp only [if_neg hg]
  rw [Rat.num_mkRat, Rat.den_mkRat, if_neg h, if_neg h, Nat.gcd_comm f.den]
theorem fr_den (q : Rat) : (fr q).den ≠ 0 := q.den_nz
theorem least_den {f : Frac} (h : f.den ≠ 0) : (least f).den ≠ 0 := by rw [least_eq h]; exact fr_den _
theorem rv_least {f : Frac} (h : f.den ≠ 0) : rv (least f) = rv f := by rw [least_eq h, rv_fr]
theorem times_eq {a b : Frac} (ha : a.den ≠ 0) (hb : b.den ≠ 0) : times a b = fr (rv a * rv b) := by
  unfold times
  rw [least_eq (Nat.mul_ne_zero ha hb)]
  unfold rv
  rw [Rat.mkRat_mul_mkRat]
theorem plus_eq {a b : Frac} (ha : a.den ≠ 0) (hb : b.den ≠ 0) : plus a b = fr (rv a + rv b) := by
  unfold plus
  rw [least_eq (Nat.mul_ne_zero ha hb)]
  unfold rv
  rw [Rat.mkRat_add_mkRat _ _ ha hb]
theorem rv_neg (a : Frac) : rv (neg a) = - rv a := by
  unfold rv neg
  rw [Rat.neg_mkRat]
theorem minus_eq {a b : Frac} (ha : a.den ≠ 0) (hb : b.den ≠ 0) : minus a b = fr (rv a - rv b) := by
  unfold minus
  rw [plus_eq ha (show (neg b).den ≠ 0 from hb), rv_neg, Rat.sub_eq_add_neg]
theorem mkRat_lt {a c : Int} {b d : Nat} (hb : b ≠ 0) (hd : d ≠ 0) : mkRat a b < mkRat c d ↔ a * (d : Int) < c * (b : Int) := by
  have hb' : (0 : Rat) < (b : Rat) := Rat.natCast_pos.mpr (Nat.pos_of_ne_zero hb)
  have hd' : (0 : Rat) < (d : Rat) := Rat.natCast_pos.mpr (Nat.pos_of_ne_zero hd)
  rw [Rat.mkRat_eq_div, Rat.mkRat_eq_div, Rat.div_lt_iff hb']
  have e : (c : Rat) / (d : Rat) * (b : Rat) = ((c : Rat) * (b : Rat)) / (d : Rat) := by
    rw [Rat.div_def, Rat.div_def, Rat.mul_assoc, Rat.mul_comm _ (b : Rat), ← Rat.mul_assoc]
  rw [e, Rat.lt_div_iff hd']
  have e1 : ((a : Rat) * (d : Rat)) = ((a * (d : Int) : Int) : Rat) := by rw [Rat.intCast_mul]; rfl
  have e2 : ((c : Rat) * (b : Rat)) = ((c * (b : Int) : Int) : Rat) := by rw [Rat.intCast_mul]; rfl
  rw [e1, e2, Rat.intCast_lt_intCast]
theorem less_eq {a b : Frac} (ha : a.den ≠ 0) (hb : b.den ≠ 0) : less a b = decide (rv a < rv b) := by
  unfold less rv
  exact decide_eq_decide.mpr (mkRat_lt ha hb).symm
theorem foldl_times : ∀ (l : List Frac) (q : Rat), (∀ f ∈ l, f.den ≠ 0) → l.foldl times (fr q) = fr (l.foldl (fun x f => x * rv f) q)
  | [], _, _ => rfl
  | f :: l, q, h => by
    rw [List.foldl_cons, List.foldl_cons, times_eq (fr_den q) (h f (List.Mem.head _)), rv_fr]
    exact foldl_times l _ fun g hg => h g (List.Mem.tail _ hg)
theorem foldl_plus : ∀ (l : List Frac) (q : Rat), (∀ f ∈ l, f.den ≠ 0) → l.foldl plus (fr q) = fr (l.foldl (fun x f => x + rv f) q)
  | [], _, _ => rfl
  | f :: l, q, h => by
    rw [List.foldl_cons, List.foldl_cons, plus_eq (fr_den q) (h f (List.Mem.head _)), rv_fr]
    exact foldl_plus l _ fun g hg => h g (List.Mem.tail _ hg)
theorem mulAll_eq (l : List Frac) (h : ∀ f ∈ l, f.den ≠ 0) : mulAll l = fr (l.foldl (fun x f => x * rv f) 1) := foldl_times l 1 h
theorem addAll_eq (l : List Frac) (h : ∀ f ∈ l, f.den ≠ 0) : addAll l = fr (l.foldl (fun x f => x + rv f) 0) := foldl_plus l 0 h
theorem behind_same (j : Nat) : behind j j = [] := by
  unfold behind
  rw [Nat.sub_self]
  rfl
theorem behind_snoc (j i : Nat) : behind j (j + (i + 1)) = behind j (j + i) ++ [j + 1 + i] := by
  unfold behind
  rw [show j + (i + 1) - j = i + 1 by omega, show j + i - j = i by omega, List.range_succ, List.map_append]
  rfl
theorem mem_behind {j k m : Nat} (h : m ∈ behind j k) : j < m ∧ m ≤ k := by
  unfold behind at h
  rw [List.mem_map] at h
  obtain ⟨i, hi, rfl⟩ := h
  have := List.mem_range.mp hi
  omega
/-! ### products -/
def prodI (f : Nat → Int) (j i : Nat) : Int := (behind j (j + i)).foldl (fun a m => a * f m) 1
theorem prodI_zero (f : Nat → Int) (j : Nat) : prodI f j 0 = 1 := by
  unfold prodI
  rw [Nat.add_zero, behind_same]
  rfl
theorem prodI_succ (f : Nat → Int) (j i : Nat) : prodI f j (i + 1) = prodI f j i * f (j + 1 + i) := by
  unfold prodI
  rw [behind_snoc, List.foldl_append]
  rfl
def prodR (f : Nat → Rat) (j i : Nat) : Rat := (behind j (j + i)).foldl (fun a m => a * f m) 1
theorem prodR_zero (f : Nat → Rat) (j : Nat) : prodR f j 0 = 1 := by
  unfold prodR
  rw [Nat.add_zero, behind_same]
  rfl
theorem prodR_succ (f : Nat → Rat) (j i : Nat) : prodR f j (i + 1) = prodR f j i * f (j + 1 + i) := by
  unfold prodR
  rw [behind_snoc, List.foldl_append]
  rfl
theorem prod_rat (o : Nat → Int) (u : Nat → Nat) (j : Nat) : ∀ i, (prodI (fun m => (u m : Int)) j i).toNat = (behind j (j + i)).foldl (fun a m => a * u m) 1 ∧ mkRat (prodI o j i) ((behind j (j + i)).foldl (fun a m => a * u m) 1) = prodR (fun m => mkRat (o m) (u m)) j i ∧ prodI (fun m => (u m : Int)) j i = (((behind j (j + i)).foldl (fun a m => a * u m) 1 : Nat) : Int)
  | 0 => by
    rw [prodI_zero, prodI_zero, prodR_zero, Nat.add_zero, behind_same]
    exact ⟨rfl, Rat.mkRat_self 1, rfl⟩
  | i + 1 => by
    obtain ⟨h1, h2, h3⟩ := prod_rat o u j i
    rw [prodI_succ, prodI_succ, prodR_succ, behind_snoc, List.foldl_append]
    simp only [List.foldl_cons, List.foldl_nil]
    rw [h3, ← h2, Rat.mkRat_mul_mkRat]
    refine ⟨?_, rfl, ?_⟩
    · rw [← Int.natCast_mul, Int.toNat_natCast]
    · rw [← Int.natCast_mul]
theorem prodN_pos (u : Nat → Nat) (j i : Nat) (h : ∀ m, j < m → m ≤ j + i → 0 < u m) : 0 < prodI (fun m => (u m : Int)) j i := by
  induction i with
  | zero => rw [prodI_zero]; decide
  | succ i ih =>
    rw [prodI_succ]
    exact Int.mul_pos (ih fun m a b => h m a (by omega)) (Int.natCast_pos.mpr (h _ (by omega) (by omega)))
/-! ### least terms by numbers -/
def lowest (a b : Int) : List Int := [a / (Nat.gcd a.natAbs b.natAbs : Int), b / (Nat.gcd a.natAbs b.natAbs : Int)]
theorem told_fr {a b : Int} (hb : 0 < b) : lowest a b = told (fr (mkRat a b.toNat)) := by
  unfold lowest told fr
  have e0 : b.toNat ≠ 0 := by omega
  rw [Rat.num_mkRat, Rat.den_mkRat, if_neg e0, if_neg e0]
  have e1 : b.natAbs = b.toNat := by omega
  have e2 : b = (b.toNat : Int) := by omega
  rw [e1, Nat.gcd_comm]
  rw [Int.natCast_ediv, ← e2]
/-! ### the specification's functions by values -/
/-- what every state that is met keeps, as far as the mathematics asks it -/
def Pos (s : State) : Prop := ∀ m, m ≤ count s → 0 < nsum (after s m)
def so (s : State) (m : Nat) : Int := (nsum (before s m) : Int)
def su (s : State) (m : Nat) : Nat := nsum (after s (m - 1))
theorem factor_eq {s : State} {m : Nat} (h : 0 < su s m) : factor s m = fr (mkRat (so s m) (su s m)) := by
  unfold factor
  rw [least_eq (by show su s m ≠ 0; omega)]
  rfl
theorem factor_den {s : State} {m : Nat} (h : 0 < su s m) : (factor s m).den ≠ 0 := by rw [factor_eq h]; exact fr_den _
theorem foldl_map_mul (g : Nat → Frac) (q : Nat → Rat) : ∀ (l : List Nat) (x : Rat), (∀ m ∈ l, rv (g m) = q m) → (l.map g).foldl (fun x f => x * rv f) x = l.foldl (fun x m => x * q m) x
  | [], _, _ => rfl
  | m :: l, x, h => by
    rw [List.map_cons, List.foldl_cons, List.foldl_cons, h m (List.Mem.head _)]
    exact foldl_map_mul g q l _ fun n hn => h n (List.Mem.tail _ hn)
theorem foldl_map_add (g : Nat → Frac) (q : Nat → Rat) : ∀ (l : List Nat) (x : Rat), (∀ m ∈ l, rv (g m) = q m) → (l.map g).foldl (fun x f => x + rv f) x = l.foldl (fun x m => x + q m) x
  | [], _, _ => rfl
  | m :: l, x, h => by
    rw [List.map_cons, List.foldl_cons, List.foldl_cons, h m (List.Mem.head _)]
    exact foldl_map_add g q l _ fun n hn => h n (List.Mem.tail _ hn)
theorem Pos.su {s : State} (h : Pos s) {j i m : Nat} (hk : j + i ≤ count s) (a : j < m) (b : m ≤ j + i) : 0 < FM.su s m := h (m - 1) (by omega)
def lq (s : State) (j i : Nat) : Rat := prodR (fun m => mkRat (so s m) (su s m)) j i
theorem linked_eq {s : State} (h : Pos s) {j i : Nat} (hk : j + i ≤ count s) : linked s j (j + i) = fr (lq s j i) := by
  unfold linked
  rw [mulAll_eq _ (fun f hf => by
    obtain ⟨m, hm, rfl⟩ := List.mem_map.mp hf
    have := mem_behind hm
    exact factor_den (h.su hk this.1 this.2))]
  rw [foldl_map_mul (factor s) (fun m => mkRat (so s m) (su s m)) _ _ (fun m hm => by
    have := mem_behind hm
    rw [factor_eq (h.su hk this.1 this.2), rv_fr])]
  rfl
theorem linked_told {s : State} (h : Pos s) {j i : Nat} (hk : j + i ≤ count s) : told (linked s j (j + i)) = lowest (prodI (so s) j i) (prodI (fun m => (su s m : Int)) j i) := by
  rw [told_fr (prodN_pos _ _ _ fun m a b => h.su hk a b), linked_eq h hk, (prod_rat (so s) (su s) j i).1, (prod_rat (so s) (su s) j i).2.1]
  rfl
/-! the benchmark -/
def bo (s : State) (m : Nat) : Int := (nsum ((s.weights.zip (periodAt s m).bench).map fun x => x.1 * x.2) : Int)
theorem benchFactor_eq (s : State) (m : Nat) : benchFactor s m = fr (mkRat (bo s m) 1000000000000) := least_eq (show MILLION * MILLION ≠ 0 by decide)
def bq (s : State) (j i : Nat) : Rat := prodR (fun m => mkRat (bo s m) 1000000000000) j i
theorem benchLinked_eq (s : State) (j i : Nat) : benchLinked s j (j + i) = fr (bq s j i) := by
  unfold benchLinked
  rw [mulAll_eq _ (fun f hf => by
    obtain ⟨m, hm, rfl⟩ := List.mem_map.mp hf
    rw [benchFactor_eq]
    exact fr_den _)]
  rw [foldl_map_mul (benchFactor s) (fun m => mkRat (bo s m) 1000000000000) _ _ (fun m _ => by rw [benchFactor_eq, rv_fr])]
  rfl
theorem benchLinked_told (s : State) (j i : Nat) : told (benchLinked s j (j + i)) = lowest (prodI (bo s) j i) (prodI (fun _ => (1000000000000 : Int)) j i) := by
  have hp : 0 < prodI (fun _ => (1000000000000 : Int)) j i := prodN_pos (fun _ => 1000000000000) j i fun _ _ _ => by decide
  have e := prod_rat (bo s) (fun _ => 1000000000000) j i
  rw [told_fr hp, benchLinked_eq]
  have e1 : (prodI (fun _ => (1000000000000 : Int)) j i).toNat = (behind j (j + i)).foldl (fun a m => a * 1000000000000) 1 := e.1
  rw [e1, e.2.1]
  rfl
/-! what a part brought -/
def sg (s : State) (p m : Nat) : Int := ((before s m).getD p 0 : Int) - ((after s (m - 1)).getD p 0 : Int)
def sumR (f : Nat → Rat) (j i : Nat) : Rat := (behind j (j + i)).foldl (fun a m => a + f m) 0
theorem sumR_zero (f : Nat → Rat) (j : Nat) : sumR f j 0 = 0 := by
  unfold sumR
  rw [Nat.add_zero, behind_same]
  rfl
theorem sumR_succ (f : Nat → Rat) (j i : Nat) : sumR f j (i + 1) = sumR f j i + f (j + 1 + i) := by
  unfold sumR
  rw [behind_snoc, List.foldl_append]
  rfl
def gained (s : State) (p j : Nat) : Nat → Int
  | 0 => 0
  | i + 1 => gained s p j i * (su s (j + 1 + i) : Int) + prodI (so s) j i * sg s p (j + 1 + i)
theorem brought_eq {s : State} {m p : Nat} (h : 0 < su s m) : brought s m (p + 1) = fr (mkRat (sg s p m) (su s m)) := by
  unfold brought
  rw [least_eq (by show su s m ≠ 0; omega)]
  rfl
theorem mkRat_add_same {a b : Int} {c d : Nat} (hc : c ≠ 0) (hd : d ≠ 0) : mkRat (a * (d : Int) + b) (c * d) = mkRat (a * (d : Int)) (c * d) + mkRat b (c * d) := by
  rw [Rat.mkRat_add_mkRat _ _ (Nat.mul_ne_zero hc hd) (Nat.mul_ne_zero hc hd), ← Int.add_mul, Rat.mkRat_mul_right (Nat.mul_ne_zero hc hd)]
theorem contribution_eq {s : State} (h : Pos s) {j i p : Nat} (hk : j + i ≤ count s) : contribution s j (j + i) (p + 1) = fr (sumR (fun m => lq s j (m - 1 - j) * mkRat (sg s p m) (su s m)) j i) := by
  unfold contribution
  have den : ∀ m ∈ behind j (j + i), times (linked s j (m - 1)) (brought s m (p + 1)) = fr (lq s j (m - 1 - j) * mkRat (sg s p m) (su s m)) := fun m hm => by
    have hm' := mem_behind hm
    have e : m - 1 = j + (m - 1 - j) := by omega
    rw [brought_eq (h.su hk hm'.1 hm'.2)]
    have e2 : linked s j (m - 1) = fr (lq s j (m - 1 - j)) := by
      have := linked_eq h (j := j) (i := m - 1 - j) (by omega)
      rw [← e] at this
      exact this
    rw [e2, times_eq (fr_den _) (fr_den _), rv_fr, rv_fr]
  rw [addAll_eq _ (fun f hf => by
    obtain ⟨m, hm, rfl⟩ := List.mem_map.mp hf
    rw [den m hm]
    exact fr_den _)]
  rw [foldl_map_add _ (fun m => lq s j (m - 1 - j) * mkRat (sg s p m) (su s m)) _ _ (fun m hm => by rw [den m hm, rv_fr])]
  rfl
theorem gained_rat {s : State} (p j : Nat) : ∀ i, (∀ m, j < m → m ≤ j + i → 0 < su s m) → mkRat (gained s p j i) (prodI (fun m => (su s m : Int)) j i).toNat = sumR (fun m => lq s j (m - 1 - j) * mkRat (sg s p m) (su s m)) j i
  | 0, _ => by
    rw [sumR_zero]
    exact Rat.zero_mkRat _
  | i + 1, h => by
    have ih := gained_rat p j i fun m a b => h m a (by omega)
    have hp := prodN_pos (su s) j i fun m a b => h m a (by omega)
    have hs := h (j + 1 + i) (by omega) (by omega)
    obtain ⟨e1, e2, e3⟩ := prod_rat (so s) (su s) j i
    rw [sumR_succ, ← ih, prodI_succ]
    have e4 : j + 1 + i - 1 - j = i := by omega
    rw [e4]
    show mkRat (gained s p j i * (su s (j + 1 + i) : Int) + prodI (so s) j i * sg s p (j + 1 + i)) _ = _
    have e5 : lq s j i = mkRat (prodI (so s) j i) (prodI (fun m => (su s m : Int)) j i).toNat := by rw [e1, e2]; rfl
    rw [e5, Rat.mkRat_mul_mkRat]
    have e6 : (prodI (fun m => (su s m : Int)) j i * (su s (j + 1 + i) : Int)).toNat = (prodI (fun m => (su s m : Int)) j i).toNat * su s (j + 1 + i) := by
      rw [Int.toNat_mul (by omega) (by omega), Int.toNat_natCast]
    have n1 : (prodI (fun m => (su s m : Int)) j i).toNat ≠ 0 := by omega
    have n2 : su s (j + 1 + i) ≠ 0 := by omega
    rw [e6, mkRat_add_same n1 n2, Rat.mkRat_mul_right n2]
theorem contribution_told {s : State} (h : Pos s) {j i p : Nat} (hk : j + i ≤ count s) : told (contribution s j (j + i) (p + 1)) = lowest (gained s p j i) (prodI (fun m => (su s m : Int)) j i) := by
  rw [told_fr (prodN_pos _ _ _ fun m a b => h.su hk a b), contribution_eq h hk, gained_rat p j i fun m a b => h.su hk a b]
end FM
end
section
namespace FM
open Vbfuan
/-! ### what made the difference -/
theorem lowest_mul {a b c d : Int} (hb : 0 < b) (hd : 0 < d) : lowest (a * c) (b * d) = told (fr (mkRat a b.toNat * mkRat c d.toNat)) := by
  rw [told_fr (Int.mul_pos hb hd), Rat.mkRat_mul_mkRat, Int.toNat_mul (by omega) (by omega)]
theorem mkRat_sub {a c : Int} {b d : Nat} (hb : b ≠ 0) (hd : d ≠ 0) : mkRat a b - mkRat c d = mkRat (a * (d : Int) - c * (b : Int)) (b * d) := by
  rw [Rat.sub_eq_add_neg, Rat.neg_mkRat, Rat.mkRat_add_mkRat _ _ hb hd, Int.neg_mul, Int.sub_eq_add_neg]
def mx (s : State) (k p : Nat) : Nat := (after s (k - 1)).getD p 0
def mw (s : State) (p : Nat) : Nat := s.weights.getD p 0
def mb (s : State) (k p : Nat) : Nat := (periodAt s k).bench.getD p 0
def me (s : State) (k p : Nat) : Nat := (before s k).getD p 0
/-- the three gaps, over and under -/
def wgO (s : State) (k p : Nat) : Int := (mx s k p : Int) * 1000000 - (mw s p : Int) * (su s k : Int)
def wgU (s : State) (k : Nat) : Int := (su s k : Int) * 1000000
def bgO (s : State) (k p : Nat) : Int := (mb s k p : Int) * 1000000 - bo s k
def cgO (s : State) (k p : Nat) : Int := (me s k p : Int) * 1000000 - (mb s k p : Int) * (mx s k p : Int)
def cgU (s : State) (k p : Nat) : Int := (mx s k p : Int) * 1000000
def wgR (s : State) (k p : Nat) : Rat := mkRat (wgO s k p) (wgU s k).toNat
def bgR (s : State) (k p : Nat) : Rat := mkRat (bgO s k p) 1000000000000
def cgR (s : State) (k p : Nat) : Rat := if mx s k p = 0 then 0 else mkRat (cgO s k p) (cgU s k p).toNat
theorem toNat_mil (n : Nat) : ((n : Int) * 1000000).toNat = n * 1000000 := by omega
theorem wg_eq {s : State} {k p : Nat} (h : 0 < su s k) : minus { num := (mx s k p : Int), den := su s k } { num := (mw s p : Int), den := MILLION } = fr (wgR s k p) := by
  rw [minus_eq (show su s k ≠ 0 by omega) (show MILLION ≠ 0 by decide)]
  unfold rv wgR wgU wgO
  rw [mkRat_sub (show su s k ≠ 0 by omega) (show MILLION ≠ 0 by decide), toNat_mil]
  rfl
theorem bg_eq {s : State} {k p : Nat} : minus { num := (mb s k p : Int), den := MILLION } (benchFactor s k) = fr (bgR s k p) := by
  rw [minus_eq (show MILLION ≠ 0 by decide) (by rw [benchFactor_eq]; exact fr_den _), benchFactor_eq, rv_fr]
  unfold bgR
  congr 1
  show mkRat (mb s k p : Int) 1000000 - mkRat (bo s k) 1000000000000 = _
  rw [mkRat_sub (by decide) (by decide)]
  have e : (mb s k p : Int) * ((1000000000000 : Nat) : Int) - bo s k * ((1000000 : Nat) : Int) = bgO s k p * ((1000000 : Nat) : Int) := by
    unfold bgO
    omega
  rw [e, Nat.mul_comm, Rat.mkRat_mul_right (by decide)]
theorem cg_eq {s : State} {k p : Nat} : minus (if mx s k p = 0 then { num := (mb s k p : Int), den := MILLION } else { num := (me s k p : Int), den := mx s k p }) { num := (mb s k p : Int), den := MILLION } = fr (cgR s k p) := by
  unfold cgR
  by_cases h : mx s k p = 0
  · rw [if_pos h, if_pos h, minus_eq (show MILLION ≠ 0 by decide) (show MILLION ≠ 0 by decide), Rat.sub_self]
  · rw [if_neg h, if_neg h, minus_eq (show mx s k p ≠ 0 from h) (show MILLION ≠ 0 by decide)]
    unfold rv cgU cgO
    rw [mkRat_sub h (show MILLION ≠ 0 by decide), toNat_mil]
    rfl
theorem made_eq {s : State} {k p : Nat} (h : 0 < su s k) : (made s k (p + 1)).allocation = fr (wgR s k p * bgR s k p) ∧ (made s k (p + 1)).selection = fr (mkRat (mw s p : Int) 1000000 * cgR s k p) ∧ (made s k (p + 1)).both = fr (wgR s k p * cgR s k p) := by
  have e1 := wg_eq (p := p) h
  have e2 := bg_eq (s := s) (k := k) (p := p)
  have e3 := cg_eq (s := s) (k := k) (p := p)
  refine ⟨?_, ?_, ?_⟩
  · show times (minus { num := (mx s k p : Int), den := su s k } { num := (mw s p : Int), den := MILLION }) (minus { num := (mb s k p : Int), den := MILLION } (benchFactor s k)) = _
    rw [e1, e2, times_eq (fr_den _) (fr_den _), rv_fr, rv_fr]
  · show times { num := (mw s p : Int), den := MILLION } (minus (if mx s k p = 0 then { num := (mb s k p : Int), den := MILLION } else { num := (me s k p : Int), den := mx s k p }) { num := (mb s k p : Int), den := MILLION }) = _
    rw [e3, times_eq (show MILLION ≠ 0 by decide) (fr_den _), rv_fr]
    rfl
  · show times (minus { num := (mx s k p : Int), den := su s k } { num := (mw s p : Int), den := MILLION }) (minus (if mx s k p = 0 then { num := (mb s k p : Int), den := MILLION } else { num := (me s k p : Int), den := mx s k p }) { num := (mb s k p : Int), den := MILLION }) = _
    rw [e1, e3, times_eq (fr_den _) (fr_den _), rv_fr, rv_fr]
/-- a fraction that is in least terms already -/
def qT (q : Rat) : List Int := [q.num, (q.den : Int)]
theorem qT_told (q : Rat) : qT q = told (fr q) := rfl
theorem qT_lowest {a b : Int} (hb : 0 < b) : lowest a b = qT (mkRat a b.toNat) := told_fr hb
theorem qT_mul (q r : Rat) : lowest (q.num * r.num) ((q.den : Int) * (r.den : Int)) = qT (q * r) := by
  have hq : (0 : Int) < (q.den : Int) := Int.natCast_pos.mpr q.den_pos
  have hr : (0 : Int) < (r.den : Int) := Int.natCast_pos.mpr r.den_pos
  rw [lowest_mul hq hr, Int.toNat_natCast, Int.toNat_natCast, Rat.mkRat_self, Rat.mkRat_self]
  rfl
theorem qT_mulI (a : Int) {b : Int} (hb : 0 < b) (r : Rat) : lowest (a * r.num) (b * (r.den : Int)) = qT (mkRat a b.toNat * r) := by
  have hr : (0 : Int) < (r.den : Int) := Int.natCast_pos.mpr r.den_pos
  rw [lowest_mul hb hr, Int.toNat_natCast, Rat.mkRat_self]
  rfl
theorem mk_num_le (a : Int) (b : Nat) : (mkRat a b).num.natAbs ≤ a.natAbs := by
  rw [Rat.num_mkRat]
  split
  · exact Nat.zero_le _
  · exact Int.natAbs_ediv_le_natAbs _ _
theorem mk_den_le (a : Int) {b : Nat} (hb : b ≠ 0) : (mkRat a b).den ≤ b := by
  rw [Rat.den_mkRat, if_neg hb]
  exact Nat.div_le_self _ _
/-! ### what would be left over -/
theorem isum_app : ∀ l m : List Int, isum (l ++ m) = isum l + isum m
  | [], m => by show isum m = 0 + isum m; omega
  | a :: l, m => by
    show a + isum (l ++ m) = a + isum l + isum m
    rw [isum_app l m]
    omega
theorem isum_one (a : Int) : isum [a] = a := Int.add_zero a
theorem isum_mul : ∀ (l : List Int) (c : Int), isum (l.map fun x => x * c) = isum l * c
  | [], c => (Int.zero_mul c).symm
  | a :: l, c => by
    show a * c + isum (l.map fun x => x * c) = (a + isum l) * c
    rw [isum_mul l c, Int.add_mul]
def fl (s : State) (m : Nat) : Int := isum (periodAt s m).flows
def la (s : State) (r m T : Nat) : Int := (nsum s.first : Int) * ((r ^ T : Nat) : Int) + isum ((behind 0 m).map fun i => fl s i * ((r ^ (T - timeOf s i) * MILLION ^ timeOf s i : Nat) : Int))
theorem leftOver_eq (s : State) (r : Nat) : leftOver s r = la s r (count s - 1) (timeOf s (count s)) - (nsum (before s (count s)) : Int) * ((MILLION ^ timeOf s (count s) : Nat) : Int) := rfl
theorem la_zero (s : State) (r : Nat) : la s r 0 0 = (nsum s.first : Int) := by
  unfold la
  rw [behind_same]
  show (nsum s.first : Int) * ((1 : Nat) : Int) + 0 = _
  omega
theorem behind0 (m : Nat) : behind 0 (m + 1) = behind 0 m ++ [m + 1] := by
  have := behind_snoc 0 m
  rw [Nat.zero_add, Nat.zero_add, Nat.zero_add, Nat.add_comm 1 m] at this
  exact this
theorem la_succ (s : State) (r m T : Nat) : la s r (m + 1) T = la s r m T + fl s (m + 1) * ((r ^ (T - timeOf s (m + 1)) * MILLION ^ timeOf s (m + 1) : Nat) : Int) := by
  unfold la
  rw [behind0, List.map_append, isum_app, Int.add_assoc]
  congr 2
  exact isum_one _
theorem la_now (s : State) (r m : Nat) : la s r (m + 1) (timeOf s (m + 1)) = la s r m (timeOf s (m + 1)) + fl s (m + 1) * ((MILLION ^ timeOf s (m + 1) : Nat) : Int) := by
  rw [la_succ, Nat.sub_self, Nat.pow_zero, Nat.one_mul]
theorem la_shift {s : State} {r m T d : Nat} (h : ∀ i, 0 < i → i ≤ m → timeOf s i ≤ T) : la s r m (T + d) = la s r m T * ((r ^ d : Nat) : Int) := by
  unfold la
  rw [Int.add_mul, ← isum_mul, List.map_map, Nat.pow_add, Int.natCast_mul, ← Int.mul_assoc]
  congr 2
  refine List.map_congr_left fun i hi => ?_
  have hi' := mem_behind hi
  have := h i hi'.1 hi'.2
  show _ = fl s i * _ * _
  rw [show T + d - timeOf s i = (T - timeOf s i) + d by omega, Nat.pow_add, Int.mul_assoc, ← Int.natCast_mul]
  congr 2
  rw [Nat.mul_assoc, Nat.mul_assoc, Nat.mul_comm (r ^ d)]
theorem halved_done (s : State) (f lo hi : Nat) (h : hi ≤ lo + 1) : halved s f lo hi = lo := by
  cases f with
  | zero => rfl
  | succ f => exact if_pos h
theorem halved_go {s : State} {f lo hi : Nat} (h : lo + 1 < hi) (hf : hi - lo ≤ 2 ^ f) : ∃ g, (leftOver s ((lo + hi) / 2) < 0 → halved s f lo hi = halved s g ((lo + hi) / 2) hi ∧ hi - (lo + hi) / 2 ≤ 2 ^ g) ∧ (¬ leftOver s ((lo + hi) / 2) < 0 → halved s f lo hi = halved s g lo ((lo + hi) / 2) ∧ (lo + hi) / 2 - lo ≤ 2 ^ g) := by
  cases f with
  | zero => rw [Nat.pow_zero] at hf; omega
  | succ f =>
    rw [Nat.pow_succ] at hf
    have e : halved s (f + 1) lo hi = if leftOver s ((lo + hi) / 2) < 0 then halved s f ((lo + hi) / 2) hi else halved s f lo ((lo + hi) / 2) := if_neg (by omega)
    refine ⟨f, fun z => ?_, fun z => ?_⟩
    · rw [e, if_pos z]
      exact ⟨rfl, by omega⟩
    · rw [e, if_neg z]
      exact ⟨rfl, by omega⟩
/-! ### the greatest fall -/
def stp (s : State) (j d : Nat) (b : Nat × Nat × Rat) : Nat × Nat × Rat := if lq s j d < b.2.2 then (j, j + d, lq s j d) else b
def inner (s : State) (j : Nat) (b : Nat × Nat × Rat) (m : Nat) : Nat × Nat × Rat := (List.range m).foldl (fun b d => stp s j d b) b
def outer (s : State) (m : Nat) : Nat × Nat × Rat := (List.range m).foldl (fun b j => inner s j b (count s + 1 - j)) (0, 0, 1)
def toF (b : Nat × Nat × Rat) : Nat × Nat × Frac := (b.1, b.2.1, fr b.2.2)
theorem inner_zero (s : State) (j : Nat) (b : Nat × Nat × Rat) : inner s j b 0 = b := rfl
theorem inner_succ (s : State) (j : Nat) (b : Nat × Nat × Rat) (m : Nat) : inner s j b (m + 1) = stp s j m (inner s j b m) := by
  unfold inner
  rw [List.range_succ, List.foldl_append]
  rfl
theorem outer_zero (s : State) : outer s 0 = (0, 0, 1) := rfl
theorem outer_succ (s : State) (m : Nat) : outer s (m + 1) = inner s m (outer s m) (count s + 1 - m) := by
  unfold outer
  rw [List.range_succ, List.foldl_append]
  rfl
theorem lq_zero (s : State) (j : Nat) : lq s j 0 = 1 := prodR_zero _ _
theorem stp_le (s : State) (j d : Nat) (b : Nat × Nat × Rat) : (stp s j d b).2.2 ≤ b.2.2 ∧ (stp s j d b).2.2 ≤ lq s j d := by
  unfold stp
  split
  · exact ⟨Rat.le_of_lt ‹_›, Rat.le_refl⟩
  · exact ⟨Rat.le_refl, Rat.not_lt.mp ‹_›⟩
theorem inner_le (s : State) (j : Nat) (b : Nat × Nat × Rat) : ∀ m, (inner s j b m).2.2 ≤ b.2.2
  | 0 => Rat.le_refl
  | m + 1 => by
    rw [inner_succ]
    exact Rat.le_trans (stp_le s j m _).1 (inner_le s j b m)
theorem outer_le (s : State) : ∀ m, (outer s m).2.2 ≤ 1
  | 0 => Rat.le_refl
  | m + 1 => by
    rw [outer_succ]
    exact Rat.le_trans (inner_le _ _ _ _) (outer_le s m)
theorem inner_one {s : State} {j : Nat} {b : Nat × Nat × Rat} (h : b.2.2 ≤ 1) : inner s j b 1 = b := by
  rw [inner_succ, inner_zero]
  unfold stp
  rw [lq_zero]
  exact if_neg (Rat.not_lt.mpr h)
theorem lq_nonneg (s : State) (j : Nat) : ∀ i, 0 ≤ lq s j i
  | 0 => by rw [lq_zero]; decide
  | i + 1 => by
    unfold lq
    rw [prodR_succ]
    refine Rat.mul_nonneg (lq_nonneg s j i) ?_
    rw [← Rat.divInt_ofNat]
    exact Rat.divInt_nonneg (Int.natCast_nonneg _) (Int.natCast_nonneg _)
theorem lq_mk (s : State) (j i : Nat) : lq s j i = mkRat (prodI (so s) j i) (prodI (fun m => (su s m : Int)) j i).toNat := by
  obtain ⟨e1, e2, _⟩ := prod_rat (so s) (su s) j i
  rw [e1, e2]
  rfl
theorem fold_flat {α β γ : Type} (f : α → List β) (g : γ → β → γ) : ∀ (l : List α) (b : γ), (l.flatMap f).foldl g b = l.foldl (fun b x => (f x).foldl g b) b
  | [], _ => rfl
  | a :: l, b => by
    rw [List.flatMap_cons, List.foldl_append, List.foldl_cons]
    exact fold_flat f g l _
/-- the best so far lies below all that is behind, from the beginning on -/
def Low (s : State) (j m : Nat) (b : Nat × Nat × Rat) : Prop := b.2.2 ≤ 1 ∧ ∀ d, d < (if j = 0 then m else count s + 1) → b.2.2 ≤ lq s 0 d
theorem worse_stp {s : State} (h : Pos s) {j m : Nat} {b : Nat × Nat × Rat} (hk : j + m ≤ count s) (hb : Low s j m b) : worse s (toF b) (j, j + m) = toF (stp s j m b) ∧ Low s j (m + 1) (stp s j m b) := by
  obtain ⟨l1, l2⟩ := stp_le s j m b
  refine ⟨?_, Rat.le_trans l1 hb.1, fun d hd => ?_⟩
  · have e0 : linked s 0 j = fr (lq s 0 j) := by
      have := linked_eq h (j := 0) (i := j) (by omega)
      rwa [Nat.zero_add] at this
    have e1 : linked s j (j + m) = fr (lq s j m) := linked_eq h hk
    have e2 : less (linked s j (j + m)) (toF b).2.2 = decide (lq s j m < b.2.2) := by
      rw [e1]
      show less (fr (lq s j m)) (fr b.2.2) = _
      rw [less_eq (fr_den _) (fr_den _), rv_fr, rv_fr]
    show (if (linked s 0 j).num = 0 then toF b else if less (linked s j (j + m)) (toF b).2.2 = true then (j, j + m, linked s j (j + m)) else toF b) = toF (stp s j m b)
    rw [e2, e1, e0]
    unfold stp
    by_cases z : lq s j m < b.2.2
    · have nz : ¬ (fr (lq s 0 j)).num = 0 := fun q => by
        have q0 : lq s 0 j = 0 := Rat.num_eq_zero.mp q
        have j0 : j ≠ 0 := fun e => by
          rw [e, lq_zero] at q0
          exact absurd q0 (by decide)
        have := hb.2 j (by rw [if_neg j0]; omega)
        rw [q0] at this
        exact Rat.not_lt.mpr (Rat.le_trans this (lq_nonneg s j m)) z
      rw [if_neg nz, if_pos (decide_eq_true z), if_pos z]
      rfl
    · rw [if_neg (fun q => z (of_decide_eq_true q)), if_neg z]
      split <;> rfl
  · by_cases j0 : j = 0
    · subst j0
      rw [if_pos rfl] at hd
      by_cases dm : d < m
      · exact Rat.le_trans l1 (hb.2 d (by rw [if_pos rfl]; exact dm))
      · have : d = m := by omega
        subst this
        exact l2
    · rw [if_neg j0] at hd
      exact Rat.le_trans l1 (hb.2 d (by rw [if_neg j0]; exact hd))
theorem inner_eq {s : State} (h : Pos s) {j : Nat} {b : Nat × Nat × Rat} (hb : Low s j 0 b) : ∀ m, j + m ≤ count s + 1 → ((List.range m).map fun d => (j, j + d)).foldl (worse s) (toF b) = toF (inner s j b m) ∧ Low s j m (inner s j b m)
  | 0, _ => ⟨rfl, hb⟩
  | m + 1, hm => by
    obtain ⟨e1, e2⟩ := inner_eq h hb m (by omega)
    rw [List.range_succ, List.map_append, List.foldl_append, e1, inner_succ]
    exact worse_stp h (by omega) e2
theorem outer_eq {s : State} (h : Pos s) : ∀ m, m ≤ count s + 1 → (List.range m).foldl (fun b j => ((List.range (count s + 1 - j)).map fun d => (j, j + d)).foldl (worse s) b) (0, 0, whole 1) = toF (outer s m) ∧ Low s m 0 (outer s m)
  | 0, _ => ⟨rfl, Rat.le_refl, fun d hd => by rw [if_pos rfl] at hd; omega⟩
  | m + 1, hm => by
    obtain ⟨e1, e2⟩ := outer_eq h m (by omega)
    obtain ⟨e3, e4⟩ := inner_eq h e2 (count s + 1 - m) (by omega)
    rw [List.range_succ, List.foldl_append, e1, outer_succ]
    refine ⟨e3, e4.1, fun d hd => e4.2 d ?_⟩
    rw [if_neg (by omega)] at hd
    split <;> omega
theorem fall_eq {s : State} (h : Pos s) : fall s = toF (outer s (count s + 1)) := by
  unfold fall
  rw [fold_flat]
  exact (outer_eq h (count s + 1) (Nat.le_refl _)).1
end FM
end
section
set_option maxRecDepth 100000
set_option maxHeartbeats 4000000
namespace FB
open PySem PySem.Spec PyProof.Rows L2
def top (i : Nat) : Stmt := PySem.Challenge.pw_fundlinks_s01_answers.main.body.getD i (.Pass ⟨0, 0, 0, 0⟩)
/-! ### what is called -/
structure Cal (P : Program) (w : World) (K : PySem.W.Frag) (mg : Str → Option Value) (base : Heap) (x : Str) (k : Nat) (ps : List Str) (sp : Sp) : Prop where
  ex : ∃ f fd, mg x = some (.ref f) ∧ PySem.W.keepIn K (.ref f) = true ∧ Binds K fd ps [] ∧ FnOk P w K mg base CX0 k f fd ps sp
structure Mth (P : Program) (w : World) (K : PySem.W.Frag) (mg : Str → Option Value) (base : Heap) (C : Addr) (m : Str) (k : Nat) (ps : List Str) (sp : Sp) : Prop where
  ex : ∃ f fd, Cls K C ∧ Meth K C m f ∧ Binds K fd ps [] ∧ FnOk P w K mg base CX0 k f fd ps sp
structure Mkr (P : Program) (w : World) (K : PySem.W.Frag) (mg : Str → Option Value) (base : Heap) (C : Addr) (x : Str) (k : Nat) (ps : List Str) (sp : Sp) : Prop where
  ex : ∃ f fd, mg x = some (.ref C) ∧ Mk K C f ∧ Binds K fd ps [] ∧ FnOk P w K mg base CX0 k f fd ps sp
section
variable {X : Cx} {x m : Str} {C : Addr} {k : Nat} {ps : List Str} {sp : Sp} {e o : Expr} {es : List Expr} {t : TA} {ta : TE} {p pos apos : Pos}
theorem pe_cal (c : Cal X.prog X.w X.K X.mg X.base x k ps sp) (hr : Room k X.A) (hg : Gl X x) (ha : PA X (e :: es) t) (hdb : (x == ("__debug__" : Str)) = false := by decide)
    (he : starEach (e :: es) X.env = (false, eval e X.env) :: starEach es X.env := by rfl) (hpl : (backTo pos (starEach es X.env)).any (·.1) = false := by rfl) :
    PE X (.Call (.Name x p) (e :: es) [] pos) (tCall sp [] E0 t) := by
  obtain ⟨f, fd, h1, h2, h3, h4⟩ := c.ex
  exact pe_call h4 hr hg h1 h2 h3 .nil pass0 ha hdb he hpl
theorem pe_mth {pl : Sem Bool} (c : Mth X.prog X.w X.K X.mg X.base C m k ps sp) (hr : Room k X.A) (ho : PE X o ta) (ha : PA X (e :: es) t)
    (hst : starEach (e :: es) X.env = (false, eval e X.env) :: starEach es X.env := by rfl) (hpl : (backTo pos (starEach es X.env)).any (·.1) = false := by rfl)
    (ht : eval (.Call (.Attribute o m apos) (e :: es) [] pos) X.env = (do
      let ov ← eval o X.env
      standAt apos.atName
      let (f, first) ← holding [ov] (getMethod ov m pl)
      callWith pos f first (backTo pos (starEach (e :: es) X.env)) (backToKw pos (keywordEach [] X.env))) := by rfl) :
    PE X (.Call (.Attribute o m apos) (e :: es) [] pos) (tMeth C m sp [] E0 ta t) := by
  obtain ⟨f, fd, h1, h2, h3, h4⟩ := c.ex
  exact pe_meth ho h1 h2 h4 hr h3 .nil pass0 ha hst hpl ht
theorem pe_mth0 {pl : Sem Bool} (c : Mth X.prog X.w X.K X.mg X.base C m k ps sp) (hr : Room k X.A) (ho : PE X o ta)
    (ht : eval (.Call (.Attribute o m apos) [] [] pos) X.env = (do
      let ov ← eval o X.env
      standAt apos.atName
      let (f, first) ← holding [ov] (getMethod ov m pl)
      callWith pos f first (backTo pos (starEach [] X.env)) (backToKw pos (keywordEach [] X.env))) := by rfl) :
    PE X (.Call (.Attribute o m apos) [] [] pos) (tMeth C m sp [] E0 ta tNil) := by
  obtain ⟨f, fd, h1, h2, h3, h4⟩ := c.ex
  exact pe_meth0 ho h1 h2 h4 hr h3 .nil pass0 ht
theorem pe_mkr (c : Mkr X.prog X.w X.K X.mg X.base C x k ps sp) (hr : Room (k + 1) X.A) (hg : Gl X x) (ha : PA X (e :: es) t) (hdb : (x == ("__debug__" : Str)) = false := by decide)
    (he : starEach (e :: es) X.env = (false, eval e X.env) :: starEach es X.env := by rfl) (hpl : (backTo pos (starEach es X.env)).any (·.1) = false := by rfl) :
    PE X (.Call (.Name x p) (e :: es) [] pos) (tMake C sp [] E0 t) := by
  obtain ⟨f, fd, h1, h2, h3, h4⟩ := c.ex
  exact pe_make h2 h4 hr hg h1 h3 .nil pass0 ha hdb he hpl
theorem pe_mkr0 (c : Mkr X.prog X.w X.K X.mg X.base C x k ps sp) (hr : Room (k + 1) X.A) (hg : Gl X x) (hdb : (x == ("__debug__" : Str)) = false := by decide) :
    PE X (.Call (.Name x p) [] [] pos) (tMake C sp [] E0 tNil) := by
  obtain ⟨f, fd, h1, h2, h3, h4⟩ := c.ex
  exact pe_make0 h2 h4 hr hg h1 h3 .nil pass0 hdb
end
section
variable {P : Program} {w : World} {K : PySem.W.Frag} {mg : Str → Option Value} {base : Heap} {C : Addr} {x : Str} {j k : Nat} {ps : List Str} {sp : Sp}
theorem Cal.mono (c : Cal P w K mg base x j ps sp) (h : j ≤ k) : Cal P w K mg base x k ps sp := by
  obtain ⟨f, fd, h1, h2, h3, h4⟩ := c.ex
  exact ⟨f, fd, h1, h2, h3, h4.mono h⟩
theorem Mth.mono (c : Mth P w K mg base C x j ps sp) (h : j ≤ k) : Mth P w K mg base C x k ps sp := by
  obtain ⟨f, fd, h1, h2, h3, h4⟩ := c.ex
  exact ⟨f, fd, h1, h2, h3, h4.mono h⟩
theorem Mkr.mono (c : Mkr P w K mg base C x j ps sp) (h : j ≤ k) : Mkr P w K mg base C x k ps sp := by
  obtain ⟨f, fd, h1, h2, h3, h4⟩ := c.ex
  exact ⟨f, fd, h1, h2, h3, h4.mono h⟩
end
/-! ### numbers -/
section
variable {X : Cx}
/-- a divisor of a size that CPython divides by itself -/
def Lim (j : Int) : Prop := j.natAbs < 2 ^ 8000
theorem Lim.log {j : Int} (h : Lim j) (h0 : j ≠ 0) : j.natAbs.log2 < 9000 :=
  Nat.lt_of_lt_of_le ((Nat.log2_lt (by omega)).mpr h) (by decide)
theorem Lim.le {i j : Int} (h : Lim j) (hij : i.natAbs ≤ j.natAbs) : Lim i := Nat.lt_of_le_of_lt hij h
theorem op_fdivL : OpR X (binaryOp .FloorDiv) (rI (fun _ j => 0 < j ∧ Lim j) fun i j => .int (i / j)) := opI fun i j _ _ _ _ _ hc q => by
  have h1 : (0 : Int) < j := hc.1
  exact floordiv_int (by omega) (by rw [Int.fdiv_eq_ediv_of_nonneg i (by omega)]; exact q) (.inl (PyProof.noPylong_of_log2 (hc.2.log (by omega))))
end
end FB
end
section
set_option maxRecDepth 100000
set_option maxHeartbeats 4000000
namespace FB
open PySem PySem.Spec PyProof.Rows L2
/-! ### fields -/
theorem lk_eq {x : Str} {v : V} {r : List (Str × V)} : List.lookup x ((x, v) :: r) = some v := by
  rw [List.lookup_cons, beq_self_eq_true]
theorem lk_ne {x y : Str} {v : V} {r : List (Str × V)} (h : (x == y) = false) : List.lookup x ((y, v) :: r) = List.lookup x r := by
  rw [List.lookup_cons, h]
theorem lk_nil {x : Str} : List.lookup x ([] : List (Str × V)) = Option.none := rfl
theorem pf_eq {x : Str} {v u : V} {r : List (Str × V)} : putF x v ((x, u) :: r) = (x, v) :: r := if_pos rfl
theorem pf_ne {x y : Str} {v u : V} {r : List (Str × V)} (h : (y == x) = false) : putF x v ((y, u) :: r) = (y, u) :: putF x v r :=
  if_neg fun e => by subst e; rw [beq_self_eq_true] at h; cases h
theorem pf_nil {x : Str} {v : V} : putF x v [] = [(x, v)] := rfl
/-! ### what stands where -/
structure EndV where
  time : Int
  before : List Int
  behind : List Int
  factors : List Int
def endF (t : Int) (b h f : Addr) : List (Str × V) := [("time", .int t), ("before", .ref b), ("behind", .ref h), ("factors", .ref f)]
def fundF (w e : Addr) : List (Str × V) := [("weights", .ref w), ("ends", .ref e)]
def readF (a : Addr) (p : Int) : List (Str × V) := [("numbers", .ref a), ("place", .int p)]
theorem endF_time (t : Int) (b h f : Addr) : (endF t b h f).lookup ("time" : Str) = some (.int t) := lk_eq
theorem endF_before (t : Int) (b h f : Addr) : (endF t b h f).lookup ("before" : Str) = some (.ref b) := (lk_ne (by decide +kernel)).trans lk_eq
theorem endF_behind (t : Int) (b h f : Addr) : (endF t b h f).lookup ("behind" : Str) = some (.ref h) := (lk_ne (by decide +kernel)).trans ((lk_ne (by decide +kernel)).trans lk_eq)
theorem endF_factors (t : Int) (b h f : Addr) : (endF t b h f).lookup ("factors" : Str) = some (.ref f) := (lk_ne (by decide +kernel)).trans ((lk_ne (by decide +kernel)).trans ((lk_ne (by decide +kernel)).trans lk_eq))
theorem fundF_weights (w e : Addr) : (fundF w e).lookup ("weights" : Str) = some (.ref w) := lk_eq
theorem fundF_ends (w e : Addr) : (fundF w e).lookup ("ends" : Str) = some (.ref e) := (lk_ne (by decide +kernel)).trans lk_eq
theorem readF_numbers (a : Addr) (p : Int) : (readF a p).lookup ("numbers" : Str) = some (.ref a) := lk_eq
theorem readF_place (a : Addr) (p : Int) : (readF a p).lookup ("place" : Str) = some (.int p) := (lk_ne (by decide +kernel)).trans lk_eq
theorem fundF_put (w e w' e' : Addr) : putF "ends" (.ref e') (putF "weights" (.ref w') (fundF w e)) = fundF w' e' := by
  unfold fundF
  rw [pf_eq, pf_ne (by decide +kernel), pf_eq]
theorem fundF_new (w' e' : Addr) : putF "ends" (.ref e') (putF "weights" (.ref w') []) = fundF w' e' := by
  unfold fundF
  rw [pf_nil, pf_ne (by decide +kernel), pf_nil]
theorem fundF_w (w e w' : Addr) : putF "weights" (.ref w') (fundF w e) = fundF w' e := by
  unfold fundF
  rw [pf_eq]
theorem readF_new (a : Addr) (p : Int) : putF "place" (.int p) (putF "numbers" (.ref a) []) = readF a p := by
  unfold readF
  rw [pf_nil, pf_ne (by decide +kernel), pf_nil]
theorem readF_put (a : Addr) (p q : Int) : putF "place" (.int q) (readF a p) = readF a q := by
  unfold readF
  rw [pf_ne (by decide +kernel), pf_eq]
theorem endF_new (t : Int) (b h f : Addr) : putF "factors" (.ref f) (putF "behind" (.ref h) (putF "before" (.ref b) (putF "time" (.int t) []))) = endF t b h f := by
  unfold endF
  rw [pf_nil, pf_ne (show (("time" : Str) == "before") = false by decide +kernel), pf_nil, pf_ne (show (("time" : Str) == "behind") = false by decide +kernel), pf_ne (show (("before" : Str) == "behind") = false by decide +kernel), pf_nil,
    pf_ne (show (("time" : Str) == "factors") = false by decide +kernel), pf_ne (show (("before" : Str) == "factors") = false by decide +kernel), pf_ne (show (("behind" : Str) == "factors") = false by decide +kernel), pf_nil]
/-- a list of ints -/
abbrev LI (H : Hp) (a : Addr) (ns : List Int) : Prop := H a = some (.lst (ns.map V.int))
structure EndAt (CE : Addr) (H : Hp) (a : Addr) (e : EndV) : Prop where
  ex : ∃ dx b h f, H a = some (.ins CE dx (endF e.time b h f)) ∧ LI H b e.before ∧ LI H h e.behind ∧ LI H f e.factors
structure FundAt (CE CF : Addr) (H : Hp) (p ea : Addr) (ws : List Int) (es : List EndV) : Prop where
  fund : ∃ dx wa, H p = some (.ins CF dx (fundF wa ea)) ∧ LI H wa ws
  lst : ∃ as : List Addr, H ea = some (.lst (as.map V.ref)) ∧ as.length = es.length ∧ ∀ (i : Nat) (a : Addr) (e : EndV), as[i]? = some a → es[i]? = some e → EndAt CE H a e
theorem EndAt.same {CE : Addr} {H H' : Hp} {a : Addr} {e : EndV} (x : EndAt CE H a e) (s : Same H H') : EndAt CE H' a e := by
  obtain ⟨dx, b, h, f, h1, h2, h3, h4⟩ := x.ex
  exact ⟨dx, b, h, f, s _ _ h1, s _ _ h2, s _ _ h3, s _ _ h4⟩
theorem FundAt.same {CE CF : Addr} {H H' : Hp} {p ea : Addr} {ws : List Int} {es : List EndV} (x : FundAt CE CF H p ea ws es) (s : Same H H') : FundAt CE CF H' p ea ws es := by
  obtain ⟨dx, wa, h1, h2⟩ := x.fund
  obtain ⟨as, h3, h4, h5⟩ := x.lst
  exact ⟨⟨dx, wa, s _ _ h1, s _ _ h2⟩, as, s _ _ h3, h4, fun i a e ha he => (h5 i a e ha he).same s⟩
/-! a list at t is none of the fund's -/
def ApartE (H : Hp) (a t : Addr) : Prop := ∀ C dx tm b h f, H a = some (.ins C dx (endF tm b h f)) → b ≠ t ∧ h ≠ t ∧ f ≠ t
def Apart (H : Hp) (p t : Addr) : Prop := ∀ C dx wa ea, H p = some (.ins C dx (fundF wa ea)) → wa ≠ t ∧ ea ≠ t ∧ ∀ as : List Addr, H ea = some (.lst (as.map V.ref)) → ∀ a ∈ as, ApartE H a t
theorem endF_inj {t t' : Int} {b h f b' h' f' : Addr} (e : endF t b h f = endF t' b' h' f') : t = t' ∧ b = b' ∧ h = h' ∧ f = f' := by
  have e1 := congrArg (fun l => List.lookup ("time" : Str) l) e
  have e2 := congrArg (fun l => List.lookup ("before" : Str) l) e
  have e3 := congrArg (fun l => List.lookup ("behind" : Str) l) e
  have e4 := congrArg (fun l => List.lookup ("factors" : Str) l) e
  simp only [endF_time, endF_before, endF_behind, endF_factors] at e1 e2 e3 e4
  exact ⟨V.int.inj (Option.some.inj e1), V.ref.inj (Option.some.inj e2), V.ref.inj (Option.some.inj e3), V.ref.inj (Option.some.inj e4)⟩
theorem fundF_inj {w e w' e' : Addr} (q : fundF w e = fundF w' e') : w = w' ∧ e = e' := by
  have e1 := congrArg (fun l => List.lookup ("weights" : Str) l) q
  have e2 := congrArg (fun l => List.lookup ("ends" : Str) l) q
  simp only [fundF_weights, fundF_ends] at e1 e2
  exact ⟨V.ref.inj (Option.some.inj e1), V.ref.inj (Option.some.inj e2)⟩
theorem refs_inj : ∀ {as bs : List Addr}, as.map V.ref = bs.map V.ref → as = bs
  | [], [], _ => rfl
  | [], _ :: _, h => by cases h
  | _ :: _, [], h => by cases h
  | a :: as, b :: bs, h => by
    injection h with h1 h2
    rw [V.ref.inj h1, refs_inj h2]
theorem ins_inj {H : Hp} {a C C' dx dx' : Addr} {fs fs' : List (Str × V)} (h : H a = some (.ins C dx fs)) (h' : H a = some (.ins C' dx' fs')) : fs = fs' := by
  rw [h] at h'
  injection Option.some.inj h'
theorem lst_inj {H : Hp} {a : Addr} {xs ys : List V} (h : H a = some (.lst xs)) (h' : H a = some (.lst ys)) : xs = ys := by
  rw [h] at h'
  injection Option.some.inj h'
/-- where each end's object is as it was -/
theorem Apart.move {CE CF : Addr} {H H' : Hp} {p ea t : Addr} {ws : List Int} {es : List EndV} (A : Apart H p t) (x : FundAt CE CF H p ea ws es) (kp : ∀ o, H p = some o → H' p = some o) (ke : ∀ o, H ea = some o → H' ea = some o) (kE : ∀ a dx tm b h f, H a = some (.ins CE dx (endF tm b h f)) → H' a = some (.ins CE dx (endF tm b h f))) : Apart H' p t := by
  obtain ⟨dx, wa, h1, h2⟩ := x.fund
  obtain ⟨as, h3, h4, h5⟩ := x.lst
  intro C' dx' wa' ea' q
  obtain ⟨e1, e2⟩ := fundF_inj (ins_inj (kp _ h1) q)
  subst e1 e2
  obtain ⟨a1, a2, a3⟩ := A _ _ _ _ h1
  refine ⟨a1, a2, fun as' q' b hb => ?_⟩
  have e := refs_inj (lst_inj (ke _ h3) q')
  subst e
  have B := a3 as h3 b hb
  obtain ⟨i, hi⟩ := List.mem_iff_getElem?.mp hb
  have hi' : i < es.length := by
    rw [← h4]
    exact (List.getElem?_eq_some_iff.mp hi).1
  obtain ⟨dxe, b', hh, ff, g1, _⟩ := (h5 i b _ hi (List.getElem?_eq_getElem hi')).ex
  intro C2 dx2 tm2 b2 h2' f2 q2
  obtain ⟨_, e1, e2, e3⟩ := endF_inj (ins_inj (kE _ _ _ _ _ _ g1) q2)
  subst e1 e2 e3
  exact B _ _ _ _ _ _ g1
theorem Apart.same {CE CF : Addr} {H H' : Hp} {p ea t : Addr} {ws : List Int} {es : List EndV} (A : Apart H p t) (x : FundAt CE CF H p ea ws es) (s : Same H H') : Apart H' p t :=
  A.move x (fun o h => s _ _ h) (fun o h => s _ _ h) fun _ _ _ _ _ _ h => s _ _ h
theorem Same.refl (H : Hp) : Same H H := fun _ _ h => h
theorem same_new {H : Hp} {a : Addr} {o : HO} (h : H a = Option.none) : Same H (upd H a o) := fun b u e => by
  rw [upd_ne (ne_of_none e h)]
  exact e
/-! ### constants -/
def IsC (mg : Str → Option Value) (x : Str) (n : Int) : Prop := ∃ t, mg x = some (.int n t)
theorem pe_const {X : Cx} {x : Str} {n : Int} {pos : Pos} (h : IsC X.mg x n) (hg : Gl X x) (hd : (x == ("__debug__" : Str)) = false := by decide) : PE X (.Name x pos) (tC (.int n)) := by
  obtain ⟨t, h⟩ := h
  exact pe_glob hg h ⟨t, rfl⟩ hd
/-! ### what the text's top has: classes, constants, no name of Python's own given another meaning -/
structure Txt (K : PySem.W.Frag) (mg : Str → Option Value) (CE CF CR : Addr) : Prop where
  clE : Cls K CE
  clF : Cls K CF
  clR : Cls K CR
  aE_time : NoAttr K CE "time"
  aE_before : NoAttr K CE "before"
  aE_behind : NoAttr K CE "behind"
  aE_factors : NoAttr K CE "factors"
  aF_weights : NoAttr K CF "weights"
  aF_ends : NoAttr K CF "ends"
  aR_numbers : NoAttr K CR "numbers"
  aR_place : NoAttr K CR "place"
  nsum : mg "sum" = none
  nall : mg "all" = none
  nany : mg "any" = none
  nmin : mg "min" = none
  nmax : mg "max" = none
  nabs : mg "abs" = none
  nlen : mg "len" = none
  nlist : mg "list" = none
  nzip : mg "zip" = none
  nrange : mg "range" = none
  c_MILLION : IsC mg "MILLION" (1000000)
  c_NOTHING_REFUSED : IsC mg "NOTHING_REFUSED" (0)
  c_OUT_OF_RANGE : IsC mg "OUT_OF_RANGE" (-1)
  c_WRONG_ROW : IsC mg "WRONG_ROW" (-2)
  c_NO_SUCH_END : IsC mg "NO_SUCH_END" (-4)
  c_NOT_AS_TOLD : IsC mg "NOT_AS_TOLD" (-6)
  c_NOTHING_LEFT : IsC mg "NOTHING_LEFT" (-7)
  c_TOO_MANY : IsC mg "TOO_MANY" (-8)
  c_MOST_PARTS : IsC mg "MOST_PARTS" (6)
  c_MOST_ENDS : IsC mg "MOST_ENDS" (24)
  c_MOST_AT_START : IsC mg "MOST_AT_START" (1000000000)
  c_MOST_VALUE : IsC mg "MOST_VALUE" (1000000000000)
  c_MOST_FACTOR : IsC mg "MOST_FACTOR" (10000000)
  c_LATEST_TIME : IsC mg "LATEST_TIME" (60)
  c_GREATEST_END_NAMED : IsC mg "GREATEST_END_NAMED" (60)
  c_SCALE : IsC mg "SCALE" (1000000000)
  c_BEGIN : IsC mg "BEGIN" (0)
  c_WEIGHTS : IsC mg "WEIGHTS" (1)
  c_PERIOD : IsC mg "PERIOD" (2)
  c_VALUE : IsC mg "VALUE" (3)
  c_LINKED : IsC mg "LINKED" (4)
  c_SCALED : IsC mg "SCALED" (5)
  c_PART : IsC mg "PART" (6)
  c_BENCH : IsC mg "BENCH" (7)
  c_BEATS : IsC mg "BEATS" (8)
  c_MADE : IsC mg "MADE" (9)
  c_IRR : IsC mg "IRR" (10)
  c_SIGN : IsC mg "SIGN" (11)
  c_FALL : IsC mg "FALL" (12)
  c_DIETZ : IsC mg "DIETZ" (13)
  c_COUNTS : IsC mg "COUNTS" (14)
  c_GREATEST_RATE : IsC mg "GREATEST_RATE" (10000000)
  c_NOT_TO_BE_TOLD : IsC mg "NOT_TO_BE_TOLD" (-9)
  c_SAME : IsC mg "SAME" (0)
  c_GREATER : IsC mg "GREATER" (1)
  c_LESS : IsC mg "LESS" (2)
/-! ### comprehensions that keep all that was -/
section
variable {K : PySem.W.Frag} {a b : Addr} {g : TG} {tt : TT} {te : TE} {vs : List Nat} {σ : L2.St} {H1 : Hp} {D : Addr} {Qd : Hp → Prop}
theorem yesT {σ : L2.St} {H : Hp} {A B : Hp → Prop} (h : A H) : tYes σ H (fun b H3 => if b = true then A H3 else B H3) := by
  show (if true = true then A H else B H)
  exact iteT h
theorem take_snoc {α : Type} : ∀ {l : List α} {i : Nat} {x : α}, l[i]? = some x → l.take (i + 1) = l.take i ++ [x]
  | [], i, x, h => by simp at h
  | a :: l, 0, x, h => by
    have e : a = x := Option.some.inj h
    subst e
    rfl
  | a :: l, i + 1, x, h => by
    have ih := take_snoc (l := l) (i := i) (x := x) h
    show a :: l.take (i + 1) = a :: l.take i ++ [x]
    rw [ih]
    rfl
theorem lc_map {xs : List V} (ys : List V) (hD : H1 D = Option.none) (hq : SqL K H1 a xs) (hlen : ys.length = xs.length) (hsz : ys.length ≤ sizeLine)
    (hs : ∀ (i : Nat) (x y : V) (H : Hp) (R : V → Hp → Prop) (E : Hp → Prop), xs[i]? = some x → ys[i]? = some y → Same H1 H → (∀ H', Same H H' → R y H') →
      g x (wipe σ vs) H fun σ2 H2 => wipe σ2 vs = wipe σ vs ∧ tt σ2 H2 fun b H3 => if b = true then te σ2 H3 R else E H3)
    (hd : ∀ H, Same H1 H → H D = some (.lst ys) → Qd H) :
    ∃ W : Nat → Nat → Hp → Prop, (∃ m, W 0 m (upd H1 D (.lst []))) ∧ ∀ i m H, W i m H →
      ((Itl K a).stop i H ∧ Qd H) ∨ ((Itl K a).go i H ∧ ∃ Nx : Hp → Prop, (∀ H', Nx H' → ∃ m', m' < m ∧ W (i + 1) m' H') ∧ ∀ x H', (Itl K a).yld i H x H' → g x (wipe σ vs) H' fun σ2 H2 => wipe σ2 vs = wipe σ vs ∧ tt σ2 H2 fun b H3 =>
        if b = true then te σ2 H3 fun y H4 => ∃ acc, H4 D = some (.lst acc) ∧ acc.length < sizeLine ∧ Nx (upd H4 D (.lst (acc ++ [y]))) else Nx H3) := by
  refine lc_list (K := K) (a := a) (xs := xs) (fun i H => Same H1 H ∧ H D = some (.lst (ys.take i))) ⟨same_new hD, upd_same⟩ (fun i H _ ⟨s, _⟩ => s.seq hq) ?_ ?_
  · rintro i x H hx ⟨s, hH⟩
    have hi : i < ys.length := by rw [hlen]; exact (List.getElem?_eq_some_iff.mp hx).1
    have hy : ys[i]? = some ys[i] := List.getElem?_eq_getElem hi
    refine hs i x ys[i] H _ _ hx hy s fun H' s' => ?_
    refine ⟨_, s' _ _ hH, by rw [List.length_take]; omega, fun c o e => ?_, ?_⟩
    · have n : c ≠ D := ne_of_none e hD
      rw [upd_ne n]
      exact s' _ _ (s _ _ e)
    · rw [upd_same, take_snoc hy]
  · rintro H ⟨s, hH⟩
    rw [← hlen, List.take_length] at hH
    exact hd H s hH
theorem lc_zip {xs ys : List V} (zs : List V) (hD : H1 D = Option.none) (hqx : SqL K H1 a xs) (hqy : SqL K H1 b ys) (hlen : zs.length = min xs.length ys.length) (hsz : zs.length ≤ sizeLine)
    (hs : ∀ (i : Nat) (x y z : V) (H : Hp) (T : Addr) (R : V → Hp → Prop) (E : Hp → Prop), xs[i]? = some x → ys[i]? = some y → zs[i]? = some z → Same H1 H → H T = Option.none → (∀ H', Same (upd H T (.tup [x, y])) H' → R z H') →
      g (.ref T) (wipe σ vs) (upd H T (.tup [x, y])) fun σ2 H2 => wipe σ2 vs = wipe σ vs ∧ tt σ2 H2 fun b H3 => if b = true then te σ2 H3 R else E H3)
    (hd : ∀ H, Same H1 H → H D = some (.lst zs) → Qd H) :
    ∃ W : Nat → Nat → Hp → Prop, (∃ m, W 0 m (upd H1 D (.lst []))) ∧ ∀ i m H, W i m H →
      ((Itz K a b).stop i H ∧ Qd H) ∨ ((Itz K a b).go i H ∧ ∃ Nx : Hp → Prop, (∀ H', Nx H' → ∃ m', m' < m ∧ W (i + 1) m' H') ∧ ∀ x H', (Itz K a b).yld i H x H' → g x (wipe σ vs) H' fun σ2 H2 => wipe σ2 vs = wipe σ vs ∧ tt σ2 H2 fun b H3 =>
        if b = true then te σ2 H3 fun y H4 => ∃ acc, H4 D = some (.lst acc) ∧ acc.length < sizeLine ∧ Nx (upd H4 D (.lst (acc ++ [y]))) else Nx H3) := by
  refine ⟨fun i m H => m = zs.length - i ∧ i ≤ zs.length ∧ Same H1 H ∧ H D = some (.lst (zs.take i)), ⟨zs.length, by simp, Nat.zero_le _, same_new hD, upd_same⟩, ?_⟩
  rintro i m H ⟨rfl, hi, s, hH⟩
  by_cases hlt : i < zs.length
  · have hx : i < xs.length := by omega
    have hy : i < ys.length := by omega
    refine .inr ⟨⟨xs, ys, xs[i], ys[i], s.seq hqx, s.seq hqy, List.getElem?_eq_getElem hx, List.getElem?_eq_getElem hy⟩, fun H' => i + 1 ≤ zs.length ∧ Same H1 H' ∧ H' D = some (.lst (zs.take (i + 1))), fun H' p => ⟨zs.length - (i + 1), by omega, rfl, p⟩, ?_⟩
    rintro v H' ⟨T, x, y, rfl, hT, rfl, ex, ey⟩
    have hx' := ex xs (s.seq hqx)
    have hy' := ey ys (s.seq hqy)
    have hz : zs[i]? = some zs[i] := List.getElem?_eq_getElem hlt
    refine hs i x y zs[i] H T _ _ hx' hy' hz s hT fun H' s' => ?_
    refine ⟨_, s' _ _ (by rw [upd_ne (ne_of_none hH hT)]; exact hH), by rw [List.length_take]; omega, hlt, fun c o e => ?_, ?_⟩
    · have n : c ≠ D := ne_of_none e hD
      rw [upd_ne n]
      exact s' _ _ (by rw [upd_ne (ne_of_none (s _ _ e) hT)]; exact s _ _ e)
    · rw [upd_same, take_snoc hz]
  · have e : i = zs.length := by omega
    subst e
    rw [List.take_length] at hH
    exact .inl ⟨⟨xs, ys, s.seq hqx, s.seq hqy, by omega⟩, hd H s hH⟩
end
end FB
end
section
set_option maxRecDepth 100000
set_option maxHeartbeats 4000000
namespace FB
open PySem PySem.Spec PyProof.Rows L2
abbrev sGcd : Stmt := top 13
abbrev sLeast : Stmt := top 14
def spGcd : Sp := fun vs H Q _ => ∃ a b : Int, vs = [.int a, .int b] ∧ Q (.int (Nat.gcd a.natAbs b.natAbs : Nat)) H
section
variable {P : Program} {w : World} {K : PySem.W.Frag} {mg : Str → Option Value} {base : Heap} {CE CF CR : Addr}
theorem scGcd : FnScope ["first", "second", "greater", "lesser", "rest"] ["first", "second"] (defScope sGcd) := ⟨rfl, rfl, rfl, by decide +kernel, rfl, by decide +kernel, by decide +kernel⟩
theorem abs_nat (i : Int) : (if i < 0 then -i else i) = ((i.natAbs : Nat) : Int) := by split <;> omega
theorem ok_Gcd {n : Nat} {f : Addr} {fd : FuncData} (F : Fun K "common_divisor" "common_divisor" sGcd f fd) (T : Txt K mg CE CF CR) : FnOk P w K mg base CX0 (n + 1) f fd ["first", "second"] spGcd := by
  refine F.ok scGcd (fun vs H Q E h => ?_) (fun cdv A outer s H vs Q E hr h => ?_)
  · obtain ⟨a, b, rfl, _⟩ := h
    rfl
  · obtain ⟨a, b, rfl, k⟩ := h
    refine ⟨_, pss_cons (ps_set (i := 2) scGcd.nd rfl (Or.inl rfl) (pe_callB call_abs (by rfl) T.nabs boot_abs (pa_cons (pv 0) pa_nil)))
      (pss_cons (ps_set (i := 3) scGcd.nd rfl (Or.inl rfl) (pe_callB call_abs (by rfl) T.nabs boot_abs (pa_cons (pv 1) pa_nil)))
      (pss_cons (ps_while PassesOwn.never (pt_cmpR op_gt (pv 3) pe_int (nomark _))
        (pss_cons (ps_set (i := 4) scGcd.nd rfl (Or.inl rfl) (pe_op op_mod (pv 2) (pv 3)))
        (pss_cons (ps_set (i := 2) scGcd.nd rfl (Or.inl rfl) (pv 3))
        (pss_one (ps_set (i := 3) scGcd.nd rfl (Or.inl rfl) (pv 4))))))
      (pss_one (ps_ret (pv 2))))), ?_⟩
    refine ⟨_, rfl, _, rfl, ?_⟩
    refine ⟨_, rfl, _, rfl, ?_⟩
    rw [abs_nat, abs_nat]
    refine ⟨fun m σ H' => H' = H ∧ ∃ (x : Nat) (r : Option V), σ = [some (.int a), some (.int b), some (.int (x : Nat)), some (.int (m : Nat)), r] ∧ Nat.gcd x m = Nat.gcd a.natAbs b.natAbs, ⟨_, rfl, _, _, rfl, rfl⟩, ?_⟩
    rintro m σ H' ⟨rfl, x, r, rfl, e⟩
    refine ⟨_, rfl, _, _, rfl, rfl, _, rfl, ?_⟩
    refine ite2 (fun hm => ?_) (fun hm => ?_)
    · have hm : (0 : Int) < (m : Nat) := of_decide_eq_true hm
      refine ⟨fun σ' H2 => H2 = H' ∧ ∃ (r : Option V), σ' = [some (.int a), some (.int b), some (.int (m : Nat)), some (.int ((x % m : Nat) : Int)), r], fun σ' H2 ⟨e1, r', e2⟩ => ⟨x % m, Nat.mod_lt _ (by omega), e1, m, r', e2, ?_⟩, ?_⟩
      · rw [← e, Nat.gcd_comm x m]
        exact (Nat.gcd_rec m x).symm ▸ (by rw [Nat.gcd_comm])
      · refine ⟨_, rfl, _, rfl, _, _, rfl, rfl, hm, ?_⟩
        refine ⟨_, rfl, ?_⟩
        refine ⟨_, rfl, ?_⟩
        exact ⟨rfl, _, rfl⟩
    · have hm : ¬ (0 : Int) < (m : Nat) := fun z => hm (decide_eq_true z)
      have h0 : m = 0 := by omega
      subst h0
      rw [Nat.gcd_zero_right] at e
      subst e
      exact ⟨_, rfl, k⟩
theorem gcd_dvd {a b : Int} (hb : 0 < b) : (0 : Int) < (Nat.gcd a.natAbs b.natAbs : Nat) ∧ ((Nat.gcd a.natAbs b.natAbs : Nat) : Int).natAbs ≤ b.natAbs := by
  have h1 : 0 < Nat.gcd a.natAbs b.natAbs := Nat.gcd_pos_of_pos_right _ (by omega)
  have h2 : Nat.gcd a.natAbs b.natAbs ≤ b.natAbs := Nat.gcd_le_right _ (by omega)
  omega
def spLeast : Sp := fun vs H Q _ => ∃ a b : Int, vs = [.int a, .int b] ∧ 0 < b ∧ Lim b ∧ ∀ p, H p = Option.none → Q (.ref p) (upd H p (.tup ((FM.lowest a b).map V.int)))
theorem scLeast : FnScope ["over", "under", "divisor"] ["over", "under"] (defScope sLeast) := ⟨rfl, rfl, rfl, by decide +kernel, rfl, by decide +kernel, by decide +kernel⟩
theorem ok_Least {n : Nat} {f : Addr} {fd : FuncData} (F : Fun K "least" "least" sLeast f fd) (T : Txt K mg CE CF CR) (cG : Cal P w K mg base "common_divisor" n ["first", "second"] spGcd) : FnOk P w K mg base CX0 (n + 1) f fd ["over", "under"] spLeast := by
  refine F.ok scLeast (fun vs H Q E h => ?_) (fun cdv A outer s H vs Q E hr h => ?_)
  · obtain ⟨a, b, rfl, _⟩ := h
    rfl
  · obtain ⟨a, b, rfl, hb, lb, k⟩ := h
    refine ⟨_, pss_cons (ps_set (i := 2) scLeast.nd rfl (Or.inl rfl) (pe_cal cG hr rfl (pa_cons (pv 0) (pa_cons (pv 1) pa_nil))))
      (pss_one (ps_ret (pe_tup (pa_cons (pe_op op_fdivL (pv 0) (pv 2)) (pa_cons (pe_op op_fdivL (pv 1) (pv 2)) pa_nil))))), ?_⟩
    obtain ⟨g1, g2⟩ := gcd_dvd (a := a) hb
    refine ⟨_, rfl, _, rfl, a, b, rfl, ?_⟩
    refine ⟨_, rfl, _, rfl, _, _, rfl, rfl, ⟨g1, lb.le g2⟩, _, rfl, _, rfl, _, _, rfl, rfl, ⟨g1, lb.le g2⟩, (by show 2 ≤ sizeLine; decide), fun p hp => ?_⟩
    exact k p hp
end
end FB
end
section
set_option maxRecDepth 100000
set_option maxHeartbeats 4000000
namespace FB
open PySem PySem.Spec PyProof.Rows L2
section
variable {P : Program} {w : World} {K : PySem.W.Frag} {mg : Str → Option Value} {base : Heap} {CE CF CR : Addr}
/-- a new list of ints is given back, all else stays -/
def GivesL (H : Hp) (ns : List Int) (Q : VK) : Prop := ∀ (H' : Hp) (l : Addr), Same H H' → H l = Option.none → LI H' l ns → Q (.ref l) H'
/-- a value is given back, all stays -/
def Gives (H : Hp) (v : V) (Q : VK) : Prop := ∀ H' : Hp, Same H H' → Q v H'
theorem get_map {α : Type} {f : α → V} {xs : List α} {i : Nat} {x : V} (h : (xs.map f)[i]? = some x) : ∃ n, xs[i]? = some n ∧ x = f n := by
  rw [List.getElem?_map] at h
  cases e : xs[i]? with
  | none => rw [e] at h; cases h
  | some n => rw [e] at h; exact ⟨n, rfl, (Option.some.inj h).symm⟩
theorem small {n : Nat} (h : n ≤ 100000) : n ≤ sizeLine := Nat.le_trans h (by decide)
theorem isum_eq : ∀ l : List Int, Vbfuan.isum l = l.sum
  | [] => rfl
  | a :: l => by
    rw [List.sum_cons, ← isum_eq l]
    rfl
theorem FundAt.at_ {H : Hp} {p ea : Addr} {ws : List Int} {es : List EndV} (x : FundAt CE CF H p ea ws es) {i : Nat} {e : EndV} (h : es[i]? = some e) :
    ∃ (as : List Addr) (a : Addr), H ea = some (.lst (as.map V.ref)) ∧ (as.map V.ref)[i]? = some (V.ref a) ∧ (as.map V.ref).length = es.length ∧ EndAt CE H a e := by
  obtain ⟨as, h1, h2, h3⟩ := x.lst
  have hi : i < as.length := by rw [h2]; exact (List.getElem?_eq_some_iff.mp h).1
  refine ⟨as, as[i], h1, by rw [List.getElem?_map, List.getElem?_eq_getElem hi]; rfl, by rw [List.length_map]; exact h2, h3 i _ e (List.getElem?_eq_getElem hi) h⟩
/-! #### values_behind -/
abbrev sVB : Stmt := top 2
def spVB : Sp := fun vs H Q _ => ∃ (a b : Addr) (xs ys : List Int), vs = [.ref a, .ref b] ∧ LI H a xs ∧ LI H b ys ∧ xs.length ≤ 100000 ∧ GivesL H (List.zipWith (· + ·) xs ys) Q
theorem scVB : FnScope ["before", "flows", "value", "flow"] ["before", "flows"] (defScope sVB) := ⟨rfl, rfl, rfl, by decide +kernel, rfl, by decide +kernel, by decide +kernel⟩
theorem ok_VB {n : Nat} {f : Addr} {fd : FuncData} (F : Fun K "values_behind" "values_behind" sVB f fd) (T : Txt K mg CE CF CR) : FnOk P w K mg base CX0 (n + 1) f fd ["before", "flows"] spVB := by
  refine F.ok scVB (fun vs H Q E h => ?_) (fun cdv A outer s H vs Q E hr h => ?_)
  · obtain ⟨a, b, xs, ys, rfl, _⟩ := h
    rfl
  · obtain ⟨a, b, xs, ys, rfl, ha, hb, hl, k⟩ := h
    refine ⟨_, pss_one (ps_ret (pe_lc (own := [("value", 2), ("flow", 3)]) (g := gTup K 2 (gCons (gName 2) (gCons (gName 3) gNil))) rfl scVB.nd (pi_zip (by rfl) T.nzip (pa_cons (pv 0) (pa_cons (pv 1) pa_nil))) (blkOk_by (N := ["before", "flows", "value", "flow"]) (sc := defScope sVB) (by decide +kernel))
      (fun _ _ _ _ _ => pg_tup (n := 2) rfl (pgs_cons (pg_name (i := 2) scVB.nd rfl (Or.inl rfl) (Or.inr rfl)) (pgs_cons (pg_name (i := 3) scVB.nd rfl (Or.inl rfl) (Or.inr rfl)) pgs_nil)))
      (fun _ _ _ _ _ => pts_nil) (fun _ _ _ _ _ => pe_op op_add (pv 2) (pv 3)))), ?_⟩
    refine ⟨_, rfl, _, rfl, a, b, _, _, rfl, SqL.of ha, SqL.of hb, fun D hD => ?_⟩
    refine lc_zip (K := K) (xs := xs.map V.int) (ys := ys.map V.int) ((List.zipWith (· + ·) xs ys).map V.int) hD (SqL.of ha) (SqL.of hb) (by simp) (by simp; have := small hl; omega) ?_ ?_
    · intro i x y z H' T R E' hx hy hz s' hT hR
      obtain ⟨x, hx', rfl⟩ := get_map hx
      obtain ⟨y, hy', rfl⟩ := get_map hy
      obtain ⟨z, hz', rfl⟩ := get_map hz
      have e : z = x + y := by
        rw [List.getElem?_zipWith, hx', hy'] at hz'
        exact (Option.some.inj hz').symm
      subst e
      refine ⟨T, _, rfl, SqT.of upd_same, rfl, _, _, rfl, _, _, rfl, rfl, rfl, ?_⟩
      refine yesT ?_
      exact ⟨_, rfl, _, rfl, _, _, rfl, rfl, hR _ (Same.refl _)⟩
    · intro H' s' hH
      exact k H' D s' hD hH
/-! #### all_within -/
abbrev sAllW : Stmt := top 39
def spAllW : Sp := fun vs H Q _ => ∃ (a : Addr) (lo hi : Int) (ns : List Int), vs = [.ref a, .int lo, .int hi] ∧ LI H a ns ∧ ns.length ≤ 100000 ∧ Gives H (.bl (Vbfuan.row ns lo hi)) Q
theorem scAllW : FnScope ["row", "low", "high", "number"] ["row", "low", "high"] (defScope sAllW) := ⟨rfl, rfl, rfl, by decide +kernel, rfl, by decide +kernel, by decide +kernel⟩
theorem ok_AllW {n : Nat} {f : Addr} {fd : FuncData} (F : Fun K "all_within" "all_within" sAllW f fd) (T : Txt K mg CE CF CR) : FnOk P w K mg base CX0 (n + 1) f fd ["row", "low", "high"] spAllW := by
  refine F.ok scAllW (fun vs H Q E h => ?_) (fun cdv A outer s H vs Q E hr h => ?_)
  · obtain ⟨a, lo, hi, ns, rfl, _⟩ := h
    rfl
  · obtain ⟨a, lo, hi, ns, rfl, ha, hl, k⟩ := h
    refine ⟨_, (pss_one (ps_ret (pe_callB (cr_all rfl) (by rfl) T.nall boot_all (pa_cons (pe_lc (own := [("number", 3)]) (g := gName 3) rfl scAllW.nd (pi_list (pv 0)) (blkOk_by (N := ["row", "low", "high", "number"]) (sc := defScope sAllW) (by decide +kernel)) (fun _ _ _ _ _ => (pg_name (i := 3) scAllW.nd rfl (Or.inl rfl) (Or.inr rfl))) (fun _ _ _ _ _ => pts_nil) (fun _ _ _ _ _ => (pe_chain op_le op_le (pv 1) (pv 3) (pv 2)))) pa_nil)))), ?_⟩
    refine ⟨_, rfl, a, rfl, ⟨_, SqL.of ha⟩, fun D hD => ?_⟩
    refine lc_map (K := K) (xs := ns.map V.int) ((ns.map fun n => Vbfuan.inside n lo hi).map V.bl) hD (SqL.of ha) (by simp) (by simp; exact small hl) ?_ ?_
    · intro i x y H' R E' hx hy s' hR
      obtain ⟨x, hx', rfl⟩ := get_map hx
      obtain ⟨y, hy', rfl⟩ := get_map hy
      have e : y = Vbfuan.inside x lo hi := by
        rw [List.getElem?_map, hx'] at hy'
        exact (Option.some.inj hy').symm
      subst e
      refine ⟨rfl, ?_⟩
      refine yesT ?_
      refine ⟨_, rfl, _, rfl, _, _, rfl, rfl, _, rfl, ite2 (fun h1 => ?_) (fun h1 => ?_)⟩
      · refine ⟨_, rfl, _, _, rfl, rfl, ?_⟩
        have e : Vbfuan.inside x lo hi = decide (x ≤ hi) := by unfold Vbfuan.inside; rw [h1, Bool.true_and]
        show R (V.bl (decide (x ≤ hi))) H'
        rw [← e]
        exact hR _ (Same.refl _)
      · have e : Vbfuan.inside x lo hi = false := by unfold Vbfuan.inside; rw [Bool.eq_false_iff.mpr h1, Bool.false_and]
        rw [← e]
        exact hR _ (Same.refl _)
    · intro H' s' hH
      refine ⟨D, _, rfl, SqL.of hH, ?_⟩
      rw [List.all_map]
      exact k H' s'
/-! #### part_count -/
abbrev sPC : Stmt := top 5
def spPC (CE CF : Addr) : Sp := fun vs H Q _ => ∃ (p ea : Addr) (ws : List Int) (es : List EndV) (e : EndV), vs = [.ref p] ∧ FundAt CE CF H p ea ws es ∧ es[0]? = some e ∧ Q (.int e.before.length) H
theorem scPC : FnScope ["fund"] ["fund"] (defScope sPC) := ⟨rfl, rfl, rfl, by decide +kernel, rfl, by decide +kernel, by decide +kernel⟩
theorem ok_PC {n : Nat} {f : Addr} {fd : FuncData} (F : Fun K "part_count" "part_count" sPC f fd) (T : Txt K mg CE CF CR) : FnOk P w K mg base CX0 (n + 1) f fd ["fund"] (spPC CE CF) := by
  refine F.ok scPC (fun vs H Q E h => ?_) (fun cdv A outer s H vs Q E hr h => ?_)
  · obtain ⟨p, ea, ws, es, e, rfl, _⟩ := h
    rfl
  · obtain ⟨p, ea, ws, es, e, rfl, hF, he, k⟩ := h
    refine ⟨_, (pss_one (ps_ret (pe_callB call_len_seq (by rfl) T.nlen PySem.boot_len (pa_cons (pe_fld (pe_ix ix_list (pe_fld (pv 0) rfl) pe_int (fun _ _ => rfl)) rfl) pa_nil)))), ?_⟩
    obtain ⟨dx, wa, hp, _⟩ := hF.fund
    obtain ⟨as, a, h1, h2, h3, ⟨dxe, b, hh, ff, h4, h5, h6, h7⟩⟩ := hF.at_ he
    refine ⟨_, rfl, p, CF, dx, _, _, rfl, hp, T.clF, T.aF_ends, fundF_ends _ _, ea, _, _, _, rfl, rfl, SqL.of h1, atI_nat (j := 0) h2, a, CE, dxe, _, _, rfl, h4, T.clE, T.aE_before, endF_before _ _ _ _, b, _, rfl, .inl (SqL.of h5), ?_⟩
    rw [List.length_map]
    exact k
/-! #### End -/
abbrev sEI : Stmt := inClass (top 3) 0
theorem scEI : FnScope ["self", "time", "before", "flows", "factors"] ["self", "time", "before", "flows", "factors"] (defScope sEI) := ⟨rfl, rfl, rfl, by decide +kernel, rfl, by decide +kernel, by decide +kernel⟩
def spEI (CE : Addr) : Sp := fun vs H Q _ => ∃ (p dx b g fa : Addr) (t : Int) (xs ys zs : List Int), vs = [.ref p, .int t, .ref b, .ref g, .ref fa] ∧ H p = some (.ins CE dx []) ∧ LI H b xs ∧ LI H g ys ∧ LI H fa zs ∧ xs.length ≤ 100000 ∧
  ∀ H' : Hp, EndAt CE H' p ⟨t, xs, List.zipWith (· + ·) xs ys, zs⟩ → (∀ c o, H c = some o → c ≠ p → H' c = some o) → (∀ t o, H t = some o → b ≠ t → fa ≠ t → ApartE H' p t) → Q .non H'
theorem ok_EI {n : Nat} {f : Addr} {fd : FuncData} (F : Fun K "__init__" "End.__init__" sEI f fd) (T : Txt K mg CE CF CR) (c_values_behind : Cal P w K mg base "values_behind" n ["before", "flows"] spVB) :
    FnOk P w K mg base CX0 (n + 1) f fd ["self", "time", "before", "flows", "factors"] (spEI CE) := by
  refine F.ok scEI (fun vs H Q E h => ?_) (fun cdv A outer s H vs Q E hr h => ?_)
  · obtain ⟨p, dx, b, g, fa, t, xs, ys, zs, rfl, _⟩ := h
    rfl
  · obtain ⟨p, dx, b, g, fa, t, xs, ys, zs, rfl, hp, hb, hg, hfa, hl, k⟩ := h
    refine ⟨_, (pss_cons (ps_fld (pv 0) (pv 1) rfl)
        (pss_cons (ps_fld (pv 0) (pv 2) rfl)
        (pss_cons (ps_fld (pv 0) (pe_cal c_values_behind hr rfl (pa_cons (pv 2) (pa_cons (pv 3) pa_nil))) rfl)
        (pss_one (ps_fld (pv 0) (pv 4) rfl))))), ?_⟩
    have nb : b ≠ p := ne_of hb hp (by intro z; cases z)
    have ng : g ≠ p := ne_of hg hp (by intro z; cases z)
    have nf : fa ≠ p := ne_of hfa hp (by intro z; cases z)
    refine ⟨_, rfl, _, rfl, p, CE, dx, _, rfl, hp, T.clE, T.aE_time, (by show 0 < 1000; decide), ?_⟩
    refine ⟨_, rfl, _, rfl, p, CE, dx, _, rfl, upd_same, T.clE, T.aE_before, (by show 1 < 1000; decide), ?_⟩
    refine ⟨_, rfl, _, rfl, b, g, xs, ys, rfl, by rw [LI, upd_ne nb, upd_ne nb]; exact hb, by rw [LI, upd_ne ng, upd_ne ng]; exact hg, hl, fun H' l s' fl hl' => ?_⟩
    have hp' := s' p _ upd_same
    have nl : l ≠ p := ne_of hl' hp' (by intro z; cases z)
    have h1 : ∀ c o, H c = some o → c ≠ p → H' c = some o := fun c o e hc => s' _ _ (by rw [upd_ne hc, upd_ne hc]; exact e)
    refine ⟨_, rfl, p, CE, dx, _, rfl, hp', T.clE, T.aE_behind, (by show 2 < 1000; decide), ?_⟩
    refine ⟨_, rfl, _, rfl, p, CE, dx, _, rfl, upd_same, T.clE, T.aE_factors, (by show 3 < 1000; decide), ?_⟩
    refine k _ ⟨dx, b, l, fa, ?_, ?_, ?_, ?_⟩ (fun c o e hc => ?_) fun t' o' e' b1 b2 C2 dx2 tm2 b2' h2' f2' q2 => ?_
    · rw [upd_same, endF_new]
    · rw [LI, upd_ne nb, upd_ne nb]; exact h1 _ _ hb nb
    · rw [LI, upd_ne nl, upd_ne nl]; exact hl'
    · rw [LI, upd_ne nf, upd_ne nf]; exact h1 _ _ hfa nf
    · rw [upd_ne hc, upd_ne hc]; exact h1 _ _ e hc
    · rw [upd_same, endF_new] at q2
      obtain ⟨_, e1, e2, e3⟩ := endF_inj (by injection Option.some.inj q2)
      subst e1 e2 e3
      refine ⟨b1, fun z => ?_, b2⟩
      subst z
      have nt : l ≠ p := nl
      rw [upd_ne nt, upd_ne nt, e'] at fl
      cases fl
/-! #### Fund -/
abbrev sSA : Stmt := inClass (top 4) 1
theorem scSA : FnScope ["self", "parts", "others"] ["self", "parts"] (defScope sSA) := ⟨rfl, rfl, rfl, by decide +kernel, rfl, by decide +kernel, by decide +kernel⟩
def spSA (CE CF : Addr) : Sp := fun vs H Q _ => ∃ (p dx pa : Addr) (fs : List (Str × V)) (ns : List Int), vs = [.ref p, .ref pa] ∧ H p = some (.ins CF dx fs) ∧ (fs = [] ∨ ∃ wa ea, fs = fundF wa ea) ∧ LI H pa ns ∧ 1 ≤ ns.length ∧ ns.length ≤ 100000 ∧
  ∀ (H' : Hp) (ea : Addr), FundAt CE CF H' p ea (1000000 :: List.replicate (ns.length - 1) 0) [⟨0, ns, ns, []⟩] → (∀ c o, H c = some o → c ≠ p → H' c = some o) → (∀ t o, H t = some o → pa ≠ t → Apart H' p t) → Q .non H'
theorem zip_zero : ∀ ns : List Int, List.zipWith (· + ·) ns (List.replicate ns.length 0) = ns
  | [] => rfl
  | a :: l => by
    show (a + 0) :: List.zipWith (· + ·) l (List.replicate l.length 0) = a :: l
    rw [zip_zero l, Int.add_zero]
theorem rep_one (n : Nat) : (List.replicate n [V.int 0]).flatten = (List.replicate n (0 : Int)).map V.int := by
  induction n with
  | zero => rfl
  | succ n ih =>
    rw [List.replicate_succ, List.flatten_cons, ih]
    rfl
theorem ok_SA {n : Nat} {f : Addr} {fd : FuncData} (F : Fun K "start_anew" "Fund.start_anew" sSA f fd) (T : Txt K mg CE CF CR) (c_End : Mkr P w K mg base CE "End" n ["self", "time", "before", "flows", "factors"] (spEI CE)) :
    FnOk P w K mg base CX0 (n + 2) f fd ["self", "parts"] (spSA CE CF) := by
  refine F.ok scSA (fun vs H Q E h => ?_) (fun cdv A outer s H vs Q E hr h => ?_)
  · obtain ⟨p, dx, pa, fs, ns, rfl, _⟩ := h
    rfl
  · obtain ⟨p, dx, pa, fs, ns, rfl, hp, hfs, hpa, hl1, hl, k⟩ := h
    refine ⟨_, (pss_cons (ps_set (i := 2) scSA.nd rfl (Or.inl rfl) (pe_op op_sub (pe_callB call_len_seq (by rfl) T.nlen PySem.boot_len (pa_cons (pv 1) pa_nil)) pe_int))
        (pss_cons (ps_fld (pv 0) (pe_op op_cat (pe_lst (pa_cons (pe_const T.c_MILLION rfl) pa_nil)) (pe_op op_rep (pe_lst (pa_cons pe_int pa_nil)) (pv 2))) rfl)
        (pss_one (ps_fld (pv 0) (pe_lst (pa_cons (pe_mkr c_End hr rfl (pa_cons pe_int (pa_cons (pv 1) (pa_cons (pe_op op_rep (pe_lst (pa_cons pe_int pa_nil)) (pe_callB call_len_seq (by rfl) T.nlen PySem.boot_len (pa_cons (pv 1) pa_nil))) (pa_cons (pe_lst pa_nil) pa_nil))))) pa_nil)) rfl)))), ?_⟩
    have big : ns.length ≤ sizeLine := small hl
    refine ⟨_, rfl, pa, _, rfl, .inl (SqL.of hpa), _, _, rfl, rfl, ?_⟩
    rw [List.length_map]
    refine ⟨(by show 1 ≤ sizeLine; decide), fun l1 n1 => ⟨(by show 1 ≤ sizeLine; decide), fun l2 n2 => ⟨_, rfl, l2, _, _, rfl, rfl, upd_same, by omega, by omega, (by show 1 * _ ≤ sizeLine; omega), fun l3 n3 => ?_⟩⟩⟩
    have s1 : Same H (upd H l1 (.lst [V.int 1000000])) := same_new n1
    have s2 := s1.trans (same_new (o := .lst [V.int 0]) n2)
    have e3 : (List.replicate ((ns.length : Int) - 1).toNat [V.int 0]).flatten = (List.replicate (ns.length - 1) (0 : Int)).map V.int := by
      rw [rep_one, show ((ns.length : Int) - 1).toNat = ns.length - 1 by omega]
    rw [e3]
    have s3 := s2.trans (same_new (o := .lst ((List.replicate (ns.length - 1) (0 : Int)).map V.int)) n3)
    have g1 := same_new (o := .lst ((List.replicate (ns.length - 1) (0 : Int)).map V.int)) n3 _ _ (same_new (o := .lst [V.int 0]) n2 _ _ (upd_same (H := H) (a := l1) (o := .lst [V.int 1000000])))
    refine ⟨l1, l3, _, _, rfl, rfl, g1, upd_same, (by rw [List.length_map, List.length_replicate]; show 1 + _ ≤ sizeLine; omega), fun wa n4 => ?_⟩
    have s4 := s3.trans (same_new (o := .lst ([V.int 1000000] ++ (List.replicate (ns.length - 1) (0 : Int)).map V.int)) n4)
    have hlen : fs.length ≤ 2 := by
      rcases hfs with rfl | ⟨_, _, rfl⟩
      · decide
      · exact Nat.le_refl 2
    refine ⟨_, rfl, p, CF, dx, _, rfl, s4 _ _ hp, T.clF, T.aF_weights, by omega, ?_⟩
    generalize hH5 : upd (upd (upd (upd H l1 (.lst [V.int 1000000])) l2 (.lst [V.int 0])) l3 (.lst ((List.replicate (ns.length - 1) (0 : Int)).map V.int))) wa (.lst ([V.int 1000000] ++ (List.replicate (ns.length - 1) (0 : Int)).map V.int)) = H5 at s4 ⊢
    have hwa : LI H5 wa (1000000 :: List.replicate (ns.length - 1) 0) := by rw [← hH5]; exact upd_same
    have k5 : ∀ c o, H5 c = some o → c ≠ p → (upd H5 p (.ins CF dx (putF "weights" (.ref wa) fs))) c = some o := fun c o e hc => by rw [upd_ne hc]; exact e
    have npa : pa ≠ p := ne_of hpa hp (by intro z; cases z)
    have nwa : wa ≠ p := ne_of hwa (s4 _ _ hp) (by intro z; cases z)
    generalize hH6 : upd H5 p (.ins CF dx (putF "weights" (.ref wa) fs)) = H6 at k5 ⊢
    have hp6 : H6 p = some (.ins CF dx (putF "weights" (.ref wa) fs)) := by rw [← hH6]; exact upd_same
    have hpa6 : LI H6 pa ns := k5 _ _ (s4 _ _ hpa) npa
    have hwa6 : LI H6 wa (1000000 :: List.replicate (ns.length - 1) 0) := k5 _ _ hwa nwa
    refine ⟨_, rfl, (by show 1 ≤ sizeLine; decide), fun l6 n6 => ⟨_, rfl, pa, _, rfl, .inl (SqL.of (same_new n6 _ _ hpa6)), ?_⟩⟩
    rw [List.length_map]
    refine ⟨l6, _, _, rfl, rfl, upd_same, by omega, by omega, (by show 1 * _ ≤ sizeLine; omega), fun l7 n7 => ⟨Nat.zero_le _, fun l8 n8 => ?_⟩⟩
    rw [show ((ns.length : Nat) : Int).toNat = ns.length from Int.toNat_natCast _, rep_one] at n8 ⊢
    intro x dxx nx ndx nex
    have s6 : Same H6 (upd (upd (upd H6 l6 (.lst [V.int 0])) l7 (.lst ((List.replicate ns.length (0 : Int)).map V.int))) l8 (.lst [])) := ((same_new n6).trans (same_new n7)).trans (same_new n8)
    have g7 := same_new (o := .lst []) n8 _ _ (upd_same (H := upd H6 l6 (.lst [V.int 0])) (a := l7) (o := .lst ((List.replicate ns.length (0 : Int)).map V.int)))
    generalize hH8 : upd (upd (upd H6 l6 (.lst [V.int 0])) l7 (.lst ((List.replicate ns.length (0 : Int)).map V.int))) l8 (.lst []) = H8 at nx ndx s6 g7 ⊢
    have g8 : LI H8 l8 [] := by rw [← hH8]; exact upd_same
    have s9 : Same H8 (upd (upd H8 dxx (.own x)) x (.ins CE dxx [])) := (same_new ndx).trans (same_new (by rw [upd_ne (fun q => nex q.symm)]; exact nx))
    refine ⟨x, dxx, pa, l7, l8, 0, ns, _, [], rfl, upd_same, s9 _ _ (s6 _ _ hpa6), s9 _ _ g7, s9 _ _ g8, hl, fun H9 hE kp aE => ⟨rfl, ?_⟩⟩
    rw [zip_zero] at hE
    have s10 : Same H8 H9 := fun c o e => kp _ _ (s9 _ _ e) (ne_of_none e nx)
    refine ⟨(by show 1 ≤ sizeLine; decide), fun ea nea => ?_⟩
    have s11 := s10.trans (same_new (o := .lst [V.ref x]) nea)
    have hp9 := s11 _ _ (s6 _ _ hp6)
    have hlen2 : (putF "weights" (V.ref wa) fs).length ≤ 2 := by
      rcases hfs with rfl | ⟨_, _, rfl⟩
      · exact Nat.le_succ 1
      · rw [fundF_w]; exact Nat.le_refl 2
    refine ⟨_, rfl, p, CF, dx, _, rfl, hp9, T.clF, T.aF_ends, by omega, ?_⟩
    have efs : putF "ends" (V.ref ea) (putF "weights" (V.ref wa) fs) = fundF wa ea := by
      rcases hfs with rfl | ⟨_, _, rfl⟩
      · exact fundF_new _ _
      · exact fundF_put _ _ _ _
    rw [efs]
    have nE : ∀ {c : Addr} {o : HO}, H9 c = some o → c ≠ ea := fun e => ne_of_none e nea
    have up : ∀ {c : Addr} {o : HO}, H9 c = some o → c ≠ p → (upd (upd H9 ea (.lst [V.ref x])) p (.ins CF dx (fundF wa ea))) c = some o := fun e hc => by
      rw [upd_ne hc, upd_ne (nE e)]
      exact e
    obtain ⟨dxe, b, hh, ff, h4, h5, h6, h7⟩ := hE.ex
    have nl : ∀ {c : Addr} {o : HO}, H9 c = some o → (∀ dx fs, o ≠ .ins CF dx fs) → c ≠ p := fun e ho => ne_of e (s10 _ _ (s6 _ _ hp6)) (ho _ _)
    have nxp : x ≠ p := fun q => by
      rw [q, s6 _ _ hp6] at nx
      cases nx
    refine k _ ea ⟨⟨dx, wa, upd_same, up (s10 _ _ (s6 _ _ hwa6)) nwa⟩, [x], ?_, rfl, fun i a e ha he => ?_⟩ (fun c o e hc => up (s10 _ _ (s6 _ _ (k5 _ _ (s4 _ _ e) hc))) hc) ?_
    · have n : ea ≠ p := fun q => by
        rw [q, s10 _ _ (s6 _ _ hp6)] at nea
        cases nea
      rw [upd_ne n]
      exact upd_same
    · match i, ha, he with
      | 0, ha, he =>
        have e1 : x = a := Option.some.inj ha
        have e2 := Option.some.inj he
        subst e1 e2
        exact ⟨dxe, b, hh, ff, up h4 nxp, up h5 (nl h5 (by intros; intro z; cases z)), up h6 (nl h6 (by intros; intro z; cases z)), up h7 (nl h7 (by intros; intro z; cases z))⟩
      | i + 1, ha, _ => simp at ha
    · intro t o ht npt C2 dx2 wa2 ea2 q2
      rw [upd_same] at q2
      obtain ⟨e1, e2⟩ := fundF_inj (by injection Option.some.inj q2)
      subst e1 e2
      have n : ea ≠ p := fun q => by
        rw [q, s10 _ _ (s6 _ _ hp6)] at nea
        cases nea
      by_cases tp : t = p
      · subst tp
        refine ⟨nwa, n, fun as2 q3 a2 h2 => ?_⟩
        rw [upd_ne n, upd_same] at q3
        have e3 := refs_inj (as := [x]) (by injection Option.some.inj q3)
        subst e3
        have e4 := List.mem_singleton.mp h2
        subst e4
        intro C3 dx3 tm3 b3 h3 f3 q4
        rw [upd_ne nxp, upd_ne (nE h4)] at q4
        exact aE _ _ (s9 _ _ (s6 _ _ hp6)) npt (fun z => by subst z; rw [LI, s6 _ _ hp6] at g8; cases g8) _ _ _ _ _ _ q4
      · have t6 := k5 _ _ (s4 _ _ ht) tp
        have t8 := s6 _ _ t6
        refine ⟨fun z => ?_, (nE (s10 _ _ t8)).symm, fun as2 q3 a2 h2 => ?_⟩
        · subst z
          have := s3 _ _ ht
          rw [n4] at this
          cases this
        · rw [upd_ne n, upd_same] at q3
          have e3 := refs_inj (as := [x]) (by injection Option.some.inj q3)
          subst e3
          have e4 := List.mem_singleton.mp h2
          subst e4
          intro C3 dx3 tm3 b3 h3 f3 q4
          rw [upd_ne nxp, upd_ne (nE h4)] at q4
          refine aE _ _ (s9 _ _ t8) npt (fun z => ?_) _ _ _ _ _ _ q4
          subst z
          have := same_new (o := .lst ((List.replicate ns.length (0 : Int)).map V.int)) n7 _ _ (same_new (o := .lst [V.int 0]) n6 _ _ t6)
          rw [n8] at this
          cases this
abbrev sFI : Stmt := inClass (top 4) 0
theorem scFI : FnScope ["self"] ["self"] (defScope sFI) := ⟨rfl, rfl, rfl, by decide +kernel, rfl, by decide +kernel, by decide +kernel⟩
def spFI (CE CF : Addr) : Sp := fun vs H Q _ => ∃ (p dx : Addr), vs = [.ref p] ∧ H p = some (.ins CF dx []) ∧
  ∀ (H' : Hp) (ea : Addr), FundAt CE CF H' p ea [1000000] [⟨0, [1], [1], []⟩] → (∀ c o, H c = some o → c ≠ p → H' c = some o) → Q .non H'
theorem ok_FI {n : Nat} {f : Addr} {fd : FuncData} (F : Fun K "__init__" "Fund.__init__" sFI f fd) (T : Txt K mg CE CF CR) (m_start_anew : Mth P w K mg base CF "start_anew" n ["self", "parts"] (spSA CE CF)) : FnOk P w K mg base CX0 (n + 1) f fd ["self"] (spFI CE CF) := by
  refine F.ok scFI (fun vs H Q E h => ?_) (fun cdv A outer s H vs Q E hr h => ?_)
  · obtain ⟨p, dx, rfl, _⟩ := h
    rfl
  · obtain ⟨p, dx, rfl, hp, k⟩ := h
    refine ⟨_, (pss_one (ps_expr (pe_mth m_start_anew hr (pv 0) (pa_cons (pe_lst (pa_cons pe_int pa_nil)) pa_nil)))), ?_⟩
    refine ⟨_, rfl, p, dx, _, rfl, hp, rfl, (by show 1 ≤ sizeLine; decide), fun l n1 => ?_⟩
    have s1 : Same H (upd H l (.lst [V.int 1])) := same_new n1
    exact ⟨p, dx, l, [], [1], rfl, s1 _ _ hp, .inl rfl, upd_same, (by decide), (by decide), fun H' ea hF kp _ => k H' ea hF fun c o e hc => kp c o (s1 _ _ e) hc⟩
end
end FB
end
section
set_option maxRecDepth 100000
set_option maxHeartbeats 4000000
namespace FB
open PySem PySem.Spec PyProof.Rows L2
open Vbfuan (row isum inside)
/-! ### tests -/
theorem iteB {c : Bool} {A B : Prop} (h1 : c = true → A) (h2 : c = false → B) : if c = true then A else B := by
  cases c with
  | true => exact iteT (h1 rfl)
  | false => exact iteF (h2 rfl)
theorem iteNot {c : Bool} {A B : Prop} (h1 : c = false → A) (h2 : c = true → B) : if (!c) = true then A else B := by
  cases c with
  | true => exact iteF (h2 rfl)
  | false => exact iteT (h1 rfl)
theorem iteD {c : Prop} [Decidable c] {A B : Prop} (h1 : c → A) (h2 : ¬ c → B) : if decide c = true then A else B :=
  iteB (fun h => h1 (of_decide_eq_true h)) fun h => h2 (of_decide_eq_false h)
theorem iteEq {a b : Int} {A B : Prop} (h1 : a = b → A) (h2 : a ≠ b → B) : if decide (V.int a = V.int b) = true then A else B :=
  iteD (fun h => h1 (V.int.inj h)) fun h => h2 fun e => h (by rw [e])
theorem iteNe {a b : Int} {A B : Prop} (h1 : a ≠ b → A) (h2 : a = b → B) : if (!decide (V.int a = V.int b)) = true then A else B :=
  iteNot (fun h => h1 fun e => by rw [e, decide_eq_true rfl] at h; cases h) fun h => h2 (V.int.inj (of_decide_eq_true h))
section
variable {P : Program} {w : World} {K : PySem.W.Frag} {mg : Str → Option Value} {base : Heap} {CE CF CR : Addr}
/-! #### start_refusal -/
def rStart (l : List Int) : Int := if l.length < 1 ∨ 6 < l.length ∨ row l 0 1000000000 = false ∨ isum l < 1 then -2 else 0
abbrev sSR : Stmt := top 40
theorem scSR : FnScope ["row"] ["row"] (defScope sSR) := ⟨rfl, rfl, rfl, by decide +kernel, rfl, by decide +kernel, by decide +kernel⟩
def spSR : Sp := fun vs H Q _ => ∃ (a : Addr) (ns : List Int), vs = [.ref a] ∧ LI H a ns ∧ ns.length ≤ 100000 ∧ Gives H (.int (rStart ns)) Q
theorem ok_SR {n : Nat} {f : Addr} {fd : FuncData} (F : Fun K "start_refusal" "start_refusal" sSR f fd) (T : Txt K mg CE CF CR) (c_all_within : Cal P w K mg base "all_within" n ["row", "low", "high"] spAllW) : FnOk P w K mg base CX0 (n + 1) f fd ["row"] spSR := by
  refine F.ok scSR (fun vs H Q E h => ?_) (fun cdv A outer s H vs Q E hr h => ?_)
  · obtain ⟨a, ns, rfl, _⟩ := h
    rfl
  · obtain ⟨a, ns, rfl, ha, hl, k⟩ := h
    refine ⟨_, (pss_cons (ps_if (pt_not (pt_chain op_le op_le pe_int (pe_callB call_len_seq (by rfl) T.nlen PySem.boot_len (pa_cons (pv 0) pa_nil)) (pe_const T.c_MOST_PARTS rfl))) (pss_one (ps_ret (pe_const T.c_WRONG_ROW rfl))) pss_nil)
        (pss_cons (ps_if (PW.pt (pw_or (pt_not (pt_val (pe_cal c_all_within hr rfl (pa_cons (pv 0) (pa_cons pe_int (pa_cons (pe_const T.c_MOST_AT_START rfl) pa_nil)))))) (pw_or1 (pt_cmpR op_lt (pe_callB (cr_sum rfl) (by rfl) T.nsum boot_sum (pa_cons (pv 0) pa_nil)) pe_int (nomark _))))) (pss_one (ps_ret (pe_const T.c_WRONG_ROW rfl))) pss_nil)
        (pss_one (ps_ret (pe_const T.c_NOTHING_REFUSED rfl))))), ?_⟩
    have bad : ∀ H', Same H H' → (ns.length < 1 ∨ 6 < ns.length ∨ row ns 0 1000000000 = false ∨ isum ns < 1) → Q (.int (-2)) H' := fun H' s' h => by
      have e : rStart ns = -2 := if_pos h
      rw [← e]
      exact k H' s'
    refine ⟨_, rfl, a, _, rfl, .inl (SqL.of ha), _, _, rfl, rfl, _, rfl, ?_⟩
    rw [List.length_map]
    refine iteD (fun h1 => ⟨_, _, rfl, rfl, _, rfl, iteNot (fun h2 => ?_) (fun h2 => ?_)⟩) (fun h1 => ⟨_, rfl, iteT ?_⟩)
    · have h2 := of_decide_eq_false h2
      exact bad H (Same.refl H) (.inr (.inl (by omega)))
    · have h2 := of_decide_eq_true h2
      refine ⟨_, rfl, a, 0, 1000000000, ns, rfl, ha, hl, fun H' s' => ⟨_, rfl, iteNot (fun h3 => ?_) (fun h3 => ?_)⟩⟩
      · exact iteT (bad H' s' (.inr (.inr (.inl h3))))
      · refine ⟨_, rfl, a, ns, rfl, SqL.of (s' _ _ ha), _, _, rfl, rfl, _, rfl, iteD (fun h4 => ?_) (fun h4 => ?_)⟩
        · exact bad H' s' (.inr (.inr (.inr (by rw [isum_eq]; exact h4))))
        · have e : rStart ns = 0 := if_neg fun h => by
            rcases h with h | h | h | h
            · omega
            · omega
            · rw [h3] at h; cases h
            · rw [isum_eq] at h; exact h4 h
          have := k H' s'
          rw [e] at this
          exact this
    · exact bad H (Same.refl H) (.inl (by omega))
/-! #### weights_refusal -/
def rWeights (n : Nat) (l : List Int) : Int := if l.length ≠ n ∨ row l 0 1000000 = false ∨ isum l ≠ 1000000 then -2 else 0
abbrev sWR : Stmt := top 41
theorem scWR : FnScope ["fund", "row"] ["fund", "row"] (defScope sWR) := ⟨rfl, rfl, rfl, by decide +kernel, rfl, by decide +kernel, by decide +kernel⟩
def spWR (CE CF : Addr) : Sp := fun vs H Q _ => ∃ (p ea a : Addr) (ws : List Int) (es : List EndV) (e : EndV) (ns : List Int), vs = [.ref p, .ref a] ∧ FundAt CE CF H p ea ws es ∧ es[0]? = some e ∧ LI H a ns ∧ ns.length ≤ 100000 ∧ Gives H (.int (rWeights e.before.length ns)) Q
theorem ok_WR {n : Nat} {f : Addr} {fd : FuncData} (F : Fun K "weights_refusal" "weights_refusal" sWR f fd) (T : Txt K mg CE CF CR) (c_all_within : Cal P w K mg base "all_within" n ["row", "low", "high"] spAllW) (c_part_count : Cal P w K mg base "part_count" n ["fund"] (spPC CE CF)) :
    FnOk P w K mg base CX0 (n + 1) f fd ["fund", "row"] (spWR CE CF) := by
  refine F.ok scWR (fun vs H Q E h => ?_) (fun cdv A outer s H vs Q E hr h => ?_)
  · obtain ⟨p, ea, a, ws, es, e, ns, rfl, _⟩ := h
    rfl
  · obtain ⟨p, ea, a, ws, es, e, ns, rfl, hF, he, ha, hl, k⟩ := h
    refine ⟨_, (pss_cons (ps_if (pt_cmpR op_ne (pe_callB call_len_seq (by rfl) T.nlen PySem.boot_len (pa_cons (pv 1) pa_nil)) (pe_cal c_part_count hr rfl (pa_cons (pv 0) pa_nil)) (nomark _)) (pss_one (ps_ret (pe_const T.c_WRONG_ROW rfl))) pss_nil)
        (pss_cons (ps_if (PW.pt (pw_or (pt_not (pt_val (pe_cal c_all_within hr rfl (pa_cons (pv 1) (pa_cons pe_int (pa_cons (pe_const T.c_MILLION rfl) pa_nil)))))) (pw_or1 (pt_cmpR op_ne (pe_callB (cr_sum rfl) (by rfl) T.nsum boot_sum (pa_cons (pv 1) pa_nil)) (pe_const T.c_MILLION rfl) (nomark _))))) (pss_one (ps_ret (pe_const T.c_WRONG_ROW rfl))) pss_nil)
        (pss_one (ps_ret (pe_const T.c_NOTHING_REFUSED rfl))))), ?_⟩
    have bad : ∀ H', Same H H' → (ns.length ≠ e.before.length ∨ row ns 0 1000000 = false ∨ isum ns ≠ 1000000) → Q (.int (-2)) H' := fun H' s' h => by
      have e : rWeights e.before.length ns = -2 := if_pos h
      rw [← e]
      exact k H' s'
    refine ⟨_, rfl, a, _, rfl, .inl (SqL.of ha), _, rfl, p, ea, ws, es, e, rfl, hF, he, rfl, _, rfl, ?_⟩
    rw [List.length_map]
    refine iteNe (fun h1 => ?_) (fun h1 => ?_)
    · exact bad H (Same.refl H) (.inl (by omega))
    · refine ⟨_, rfl, a, 0, 1000000, ns, rfl, ha, hl, fun H' s' => ⟨_, rfl, iteNot (fun h3 => ?_) (fun h3 => ?_)⟩⟩
      · exact iteT (bad H' s' (.inr (.inl h3)))
      · refine ⟨_, rfl, a, ns, rfl, SqL.of (s' _ _ ha), rfl, _, rfl, iteNe (fun h4 => ?_) (fun h4 => ?_)⟩
        · exact bad H' s' (.inr (.inr (by rw [isum_eq]; exact h4)))
        · have e : rWeights e.before.length ns = 0 := if_neg fun h => by
            rcases h with h | h | h
            · omega
            · rw [h3] at h; cases h
            · rw [isum_eq] at h; exact h h4
          have := k H' s'
          rw [e] at this
          exact this
/-! #### ends_refusal, span_refusal, part_span_refusal -/
def rEnds (n : Nat) (l : List Int) : Int := if row l 0 60 = false then -1 else if l.any (fun x => decide ((n : Int) ≤ x)) = true then -4 else 0
abbrev sER : Stmt := top 45
theorem scER : FnScope ["fund", "named"] ["fund", "named"] (defScope sER) := ⟨rfl, rfl, rfl, by decide +kernel, rfl, by decide +kernel, by decide +kernel⟩
def spER (CE CF : Addr) : Sp := fun vs H Q _ => ∃ (p ea a : Addr) (ws : List Int) (es : List EndV) (ns : List Int), vs = [.ref p, .ref a] ∧ FundAt CE CF H p ea ws es ∧ LI H a ns ∧ 0 < ns.length ∧ ns.length ≤ 100000 ∧ Gives H (.int (rEnds es.length ns)) Q
theorem FundAt.len {H : Hp} {p ea : Addr} {ws : List Int} {es : List EndV} (x : FundAt CE CF H p ea ws es) : ∃ as : List Addr, H ea = some (.lst (as.map V.ref)) ∧ (as.map V.ref).length = es.length := by
  obtain ⟨as, h1, h2, h3⟩ := x.lst
  exact ⟨as, h1, by rw [List.length_map]; exact h2⟩
theorem ok_ER {n : Nat} {f : Addr} {fd : FuncData} (F : Fun K "ends_refusal" "ends_refusal" sER f fd) (T : Txt K mg CE CF CR) (c_all_within : Cal P w K mg base "all_within" n ["row", "low", "high"] spAllW) :
    FnOk P w K mg base CX0 (n + 1) f fd ["fund", "named"] (spER CE CF) := by
  refine F.ok scER (fun vs H Q E h => ?_) (fun cdv A outer s H vs Q E hr h => ?_)
  · obtain ⟨p, ea, a, ws, es, ns, rfl, _⟩ := h
    rfl
  · obtain ⟨p, ea, a, ws, es, ns, rfl, hF, ha, hl0, hl, k⟩ := h
    refine ⟨_, (pss_cons (ps_if (pt_not (pt_val (pe_cal c_all_within hr rfl (pa_cons (pv 1) (pa_cons pe_int (pa_cons (pe_const T.c_GREATEST_END_NAMED rfl) pa_nil)))))) (pss_one (ps_ret (pe_const T.c_OUT_OF_RANGE rfl))) pss_nil)
        (pss_cons (ps_if (pt_cmpR op_ge (pe_callB (cr_max rfl) (by rfl) T.nmax boot_max (pa_cons (pv 1) pa_nil)) (pe_callB call_len_seq (by rfl) T.nlen PySem.boot_len (pa_cons (pe_fld (pv 0) rfl) pa_nil)) (nomark _)) (pss_one (ps_ret (pe_const T.c_NO_SUCH_END rfl))) pss_nil)
        (pss_one (ps_ret (pe_const T.c_NOTHING_REFUSED rfl))))), ?_⟩
    refine ⟨_, rfl, a, 0, 60, ns, rfl, ha, hl, fun H' s' => ⟨_, rfl, iteNot (fun h3 => ?_) (fun h3 => ?_)⟩⟩
    · have e : rEnds es.length ns = -1 := if_pos h3
      have := k H' s'
      rw [e] at this
      exact this
    · have hF' := hF.same s'
      obtain ⟨dx, wa, hp, _⟩ := hF'.fund
      obtain ⟨as, h1, h2⟩ := hF'.len
      refine ⟨_, rfl, a, ns, rfl, SqL.of (s' _ _ ha), hl0, fun m hm hmax => ⟨_, rfl, p, CF, dx, _, _, rfl, hp, T.clF, T.aF_ends, fundF_ends _ _, ea, _, rfl, .inl (SqL.of h1), _, _, rfl, rfl, _, rfl, ?_⟩⟩
      rw [h2]
      have h3' : ¬ row ns 0 60 = false := by rw [h3]; exact fun z => by cases z
      refine iteD (fun h4 => ?_) (fun h4 => ?_)
      · have e : rEnds es.length ns = -4 := by
          unfold rEnds
          rw [if_neg h3', if_pos (List.any_eq_true.mpr ⟨m, hm, decide_eq_true h4⟩)]
        have := k H' s'
        rw [e] at this
        exact this
      · have e : rEnds es.length ns = 0 := by
          unfold rEnds
          rw [if_neg h3', if_neg]
          intro z
          obtain ⟨y, hy, hy'⟩ := List.any_eq_true.mp z
          have := hmax y hy
          have := of_decide_eq_true hy'
          omega
        have := k H' s'
        rw [e] at this
        exact this
def rSpan (n : Nat) (j k : Int) : Int := if rEnds n [j, k] = 0 ∧ k < j then -6 else rEnds n [j, k]
abbrev sSP : Stmt := top 46
theorem scSP : FnScope ["fund", "j", "k", "refusal"] ["fund", "j", "k"] (defScope sSP) := ⟨rfl, rfl, rfl, by decide +kernel, rfl, by decide +kernel, by decide +kernel⟩
def spSP (CE CF : Addr) : Sp := fun vs H Q _ => ∃ (p ea : Addr) (ws : List Int) (es : List EndV) (j k : Int), vs = [.ref p, .int j, .int k] ∧ FundAt CE CF H p ea ws es ∧ Gives H (.int (rSpan es.length j k)) Q
theorem ok_SP {n : Nat} {f : Addr} {fd : FuncData} (F : Fun K "span_refusal" "span_refusal" sSP f fd) (T : Txt K mg CE CF CR) (c_ends_refusal : Cal P w K mg base "ends_refusal" n ["fund", "named"] (spER CE CF)) : FnOk P w K mg base CX0 (n + 1) f fd ["fund", "j", "k"] (spSP CE CF) := by
  refine F.ok scSP (fun vs H Q E h => ?_) (fun cdv A outer s H vs Q E hr h => ?_)
  · obtain ⟨p, ea, ws, es, j, k, rfl, _⟩ := h
    rfl
  · obtain ⟨p, ea, ws, es, j, k, rfl, hF, kk⟩ := h
    refine ⟨_, (pss_cons (ps_set (i := 3) scSP.nd rfl (Or.inl rfl) (pe_cal c_ends_refusal hr rfl (pa_cons (pv 0) (pa_cons (pe_lst (pa_cons (pv 1) (pa_cons (pv 2) pa_nil))) pa_nil))))
        (pss_cons (ps_if (PW.pt (pw_and (pt_cmpR op_eq (pv 3) (pe_const T.c_NOTHING_REFUSED rfl) (nomark _)) (pw_and1 (pt_cmpR op_lt (pv 2) (pv 1) (nomark _))))) (pss_one (ps_ret (pe_const T.c_NOT_AS_TOLD rfl))) pss_nil)
        (pss_one (ps_ret (pv 3))))), ?_⟩
    refine ⟨_, rfl, _, rfl, _, rfl, (by show 2 ≤ sizeLine; decide), fun l nl => ?_⟩
    have s1 : Same H (upd H l (.lst [V.int j, V.int k])) := same_new nl
    refine ⟨p, ea, l, ws, es, [j, k], rfl, hF.same s1, upd_same, (by show 0 < 2; decide), (by show 2 ≤ 100000; decide), fun H' s' => ?_⟩
    have kk' := kk H' (s1.trans s')
    refine ⟨_, rfl, rfl, _, rfl, iteEq (fun h1 => ?_) (fun h1 => ?_)⟩
    · refine ⟨_, rfl, _, rfl, _, _, rfl, rfl, _, rfl, iteD (fun h2 => ?_) (fun h2 => ?_)⟩
      · have e : rSpan es.length j k = -6 := if_pos ⟨h1, h2⟩
        rw [e] at kk'
        exact kk'
      · have e : rSpan es.length j k = rEnds es.length [j, k] := if_neg fun z => h2 z.2
        rw [e] at kk'
        exact ⟨_, rfl, kk'⟩
    · have e : rSpan es.length j k = rEnds es.length [j, k] := if_neg fun z => h1 z.1
      rw [e] at kk'
      exact iteF ⟨_, rfl, kk'⟩
def rPart (m n : Nat) (j k i : Int) : Int := if inside i 1 m = false then -1 else rSpan n j k
abbrev sPtR : Stmt := top 47
theorem scPtR : FnScope ["fund", "part"] ["fund", "part"] (defScope sPtR) := ⟨rfl, rfl, rfl, by decide +kernel, rfl, by decide +kernel, by decide +kernel⟩
def rPt (m : Nat) (i : Int) : Int := if inside i 1 m = false then -1 else 0
def spPtR (CE CF : Addr) : Sp := fun vs H Q _ => ∃ (p ea : Addr) (ws : List Int) (es : List EndV) (e : EndV) (i : Int), vs = [.ref p, .int i] ∧ FundAt CE CF H p ea ws es ∧ es[0]? = some e ∧ Q (.int (rPt e.before.length i)) H
theorem ok_PtR {n : Nat} {f : Addr} {fd : FuncData} (F : Fun K "part_refusal" "part_refusal" sPtR f fd) (T : Txt K mg CE CF CR) (c_part_count : Cal P w K mg base "part_count" n ["fund"] (spPC CE CF)) : FnOk P w K mg base CX0 (n + 1) f fd ["fund", "part"] (spPtR CE CF) := by
  refine F.ok scPtR (fun vs H Q E h => ?_) (fun cdv A outer s H vs Q E hr h => ?_)
  · obtain ⟨p, ea, ws, es, e, i, rfl, _⟩ := h
    rfl
  · obtain ⟨p, ea, ws, es, e, i, rfl, hF, he, kk⟩ := h
    refine ⟨_, (pss_cons (ps_if (pt_not (pt_chain op_le op_le pe_int (pv 1) (pe_cal c_part_count hr rfl (pa_cons (pv 0) pa_nil)))) (pss_one (ps_ret (pe_const T.c_OUT_OF_RANGE rfl))) pss_nil)
        (pss_one (ps_ret (pe_const T.c_NOTHING_REFUSED rfl)))), ?_⟩
    have bad : inside i 1 e.before.length = false → Q (.int (-1)) H := fun h => by
      have e : rPt e.before.length i = -1 := if_pos h
      rw [← e]
      exact kk
    refine ⟨_, rfl, _, _, rfl, rfl, _, rfl, ?_⟩
    refine iteD (fun h1 => ⟨_, rfl, p, ea, ws, es, e, rfl, hF, he, _, _, rfl, rfl, _, rfl, iteNot (fun h2 => ?_) (fun h2 => ?_)⟩) (fun h1 => ⟨_, rfl, iteT ?_⟩)
    · refine bad ?_
      unfold Vbfuan.inside
      rw [h2, Bool.and_false]
    · have e : rPt e.before.length i = 0 := if_neg fun h => by
        unfold Vbfuan.inside at h
        rw [h2, decide_eq_true h1] at h
        cases h
      rw [e] at kk
      exact kk
    · refine bad ?_
      unfold Vbfuan.inside
      rw [decide_eq_false h1, Bool.false_and]
abbrev sPS : Stmt := top 48
theorem scPS : FnScope ["fund", "j", "k", "part", "refusal"] ["fund", "j", "k", "part"] (defScope sPS) := ⟨rfl, rfl, rfl, by decide +kernel, rfl, by decide +kernel, by decide +kernel⟩
def spPS (CE CF : Addr) : Sp := fun vs H Q _ => ∃ (p ea : Addr) (ws : List Int) (es : List EndV) (e : EndV) (j k i : Int), vs = [.ref p, .int j, .int k, .int i] ∧ FundAt CE CF H p ea ws es ∧ es[0]? = some e ∧ Gives H (.int (rPart e.before.length es.length j k i)) Q
theorem rPt_one {m : Nat} {i : Int} (h : rPt m i ≠ 0) : inside i 1 m = false ∧ rPt m i = -1 := by
  unfold rPt at *
  by_cases z : inside i 1 m = false
  · exact ⟨z, if_pos z⟩
  · rw [if_neg z] at h
    exact absurd rfl h
theorem rPt_zero {m : Nat} {i : Int} (h : rPt m i = 0) : ¬ inside i 1 m = false := fun z => by
  unfold rPt at h
  rw [if_pos z] at h
  exact absurd h (by decide)
theorem ok_PS {n : Nat} {f : Addr} {fd : FuncData} (F : Fun K "part_span_refusal" "part_span_refusal" sPS f fd) (T : Txt K mg CE CF CR) (c_part_refusal : Cal P w K mg base "part_refusal" n ["fund", "part"] (spPtR CE CF)) (c_span_refusal : Cal P w K mg base "span_refusal" n ["fund", "j", "k"] (spSP CE CF)) :
    FnOk P w K mg base CX0 (n + 1) f fd ["fund", "j", "k", "part"] (spPS CE CF) := by
  refine F.ok scPS (fun vs H Q E h => ?_) (fun cdv A outer s H vs Q E hr h => ?_)
  · obtain ⟨p, ea, ws, es, e, j, k, i, rfl, _⟩ := h
    rfl
  · obtain ⟨p, ea, ws, es, e, j, k, i, rfl, hF, he, kk⟩ := h
    refine ⟨_, (pss_cons (ps_set (i := 4) scPS.nd rfl (Or.inl rfl) (pe_cal c_part_refusal hr rfl (pa_cons (pv 0) (pa_cons (pv 3) pa_nil))))
        (pss_cons (ps_if (pt_cmpR op_ne (pv 4) (pe_const T.c_NOTHING_REFUSED rfl) (nomark _)) (pss_one (ps_ret (pv 4))) pss_nil)
        (pss_one (ps_ret (pe_cal c_span_refusal hr rfl (pa_cons (pv 0) (pa_cons (pv 1) (pa_cons (pv 2) pa_nil)))))))), ?_⟩
    refine ⟨_, rfl, _, rfl, p, ea, ws, es, e, i, rfl, hF, he, ?_⟩
    refine ⟨_, rfl, rfl, _, rfl, iteNe (fun h1 => ?_) (fun h1 => ?_)⟩
    · obtain ⟨h2, h3⟩ := rPt_one h1
      have e' : rPart e.before.length es.length j k i = -1 := if_pos h2
      rw [h3]
      refine ⟨_, rfl, ?_⟩
      rw [← e']
      exact kk H (Same.refl H)
    · refine ⟨_, rfl, _, rfl, _, rfl, p, ea, ws, es, j, k, rfl, hF, ?_⟩
      have e' : rPart e.before.length es.length j k i = rSpan es.length j k := if_neg (rPt_zero h1)
      rw [← e']
      exact kk
end
end FB
end
section
set_option maxRecDepth 100000
set_option maxHeartbeats 4000000
namespace FB
open PySem PySem.Spec PyProof.Rows L2
open Vbfuan (row isum inside)
section
variable {P : Program} {w : World} {K : PySem.W.Frag} {mg : Str → Option Value} {base : Heap} {CE CF CR : Addr}
/-! #### period_rows_refusal -/
def rRows (n : Nat) (e f b : List Int) : Int := if e.length ≠ n ∨ f.length ≠ n ∨ b.length ≠ n ∨ row e 0 1000000000000 = false ∨ row f (-1000000000000) 1000000000000 = false ∨ row b 0 10000000 = false then -2 else 0
abbrev sPR : Stmt := top 42
theorem scPR : FnScope ["fund", "before", "flows", "factors", "row"] ["fund", "before", "flows", "factors"] (defScope sPR) := ⟨rfl, rfl, rfl, by decide +kernel, rfl, by decide +kernel, by decide +kernel⟩
def spPR (CE CF : Addr) : Sp := fun vs H Q _ => ∃ (p ea a b c : Addr) (ws : List Int) (es : List EndV) (e : EndV) (xs ys zs : List Int), vs = [.ref p, .ref a, .ref b, .ref c] ∧ FundAt CE CF H p ea ws es ∧ es[0]? = some e ∧
  LI H a xs ∧ LI H b ys ∧ LI H c zs ∧ xs.length ≤ 100000 ∧ ys.length ≤ 100000 ∧ zs.length ≤ 100000 ∧ Gives H (.int (rRows e.before.length xs ys zs)) Q
theorem ok_PR {n : Nat} {f : Addr} {fd : FuncData} (F : Fun K "period_rows_refusal" "period_rows_refusal" sPR f fd) (T : Txt K mg CE CF CR) (c_all_within : Cal P w K mg base "all_within" n ["row", "low", "high"] spAllW) (c_part_count : Cal P w K mg base "part_count" n ["fund"] (spPC CE CF)) :
    FnOk P w K mg base CX0 (n + 1) f fd ["fund", "before", "flows", "factors"] (spPR CE CF) := by
  refine F.ok scPR (fun vs H Q E h => ?_) (fun cdv A outer s H vs Q E hr h => ?_)
  · obtain ⟨p, ea, a, b, c, ws, es, e, xs, ys, zs, rfl, _⟩ := h
    rfl
  · obtain ⟨p, ea, a, b, c, ws, es, e, xs, ys, zs, rfl, hF, he, ha, hb, hc, lx, ly, lz, k⟩ := h
    refine ⟨_, (pss_cons (ps_for PassesOwn.never rfl (pi_tup (pe_tup (pa_cons (pv 1) (pa_cons (pv 2) (pa_cons (pv 3) pa_nil))))) (pg_name (i := 4) scPR.nd rfl (Or.inl rfl)) (pss_one (ps_if (pt_cmpR op_ne (pe_callB call_len_seq (by rfl) T.nlen PySem.boot_len (pa_cons (pv 4) pa_nil)) (pe_cal c_part_count hr rfl (pa_cons (pv 0) pa_nil)) (nomark _)) (pss_one (ps_ret (pe_const T.c_WRONG_ROW rfl))) pss_nil)))
        (pss_cons (ps_if (pt_not (pt_val (pe_cal c_all_within hr rfl (pa_cons (pv 1) (pa_cons pe_int (pa_cons (pe_const T.c_MOST_VALUE rfl) pa_nil)))))) (pss_one (ps_ret (pe_const T.c_WRONG_ROW rfl))) pss_nil)
        (pss_cons (ps_if (pt_not (pt_val (pe_cal c_all_within hr rfl (pa_cons (pv 2) (pa_cons (pe_un un_neg (pe_const T.c_MOST_VALUE rfl)) (pa_cons (pe_const T.c_MOST_VALUE rfl) pa_nil)))))) (pss_one (ps_ret (pe_const T.c_WRONG_ROW rfl))) pss_nil)
        (pss_cons (ps_if (pt_not (pt_val (pe_cal c_all_within hr rfl (pa_cons (pv 3) (pa_cons pe_int (pa_cons (pe_const T.c_MOST_FACTOR rfl) pa_nil)))))) (pss_one (ps_ret (pe_const T.c_WRONG_ROW rfl))) pss_nil)
        (pss_one (ps_ret (pe_const T.c_NOTHING_REFUSED rfl))))))), ?_⟩
    have bad : ∀ H', Same H H' → (xs.length ≠ e.before.length ∨ ys.length ≠ e.before.length ∨ zs.length ≠ e.before.length ∨ row xs 0 1000000000000 = false ∨ row ys (-1000000000000) 1000000000000 = false ∨ row zs 0 10000000 = false) → Q (.int (-2)) H' := fun H' s' h => by
      have e : rRows e.before.length xs ys zs = -2 := if_pos h
      rw [← e]
      exact k H' s'
    refine ⟨_, rfl, _, rfl, _, rfl, (by show 3 ≤ sizeLine; decide), fun t nt => ?_⟩
    have s1 : Same H (upd H t (.tup [V.ref a, V.ref b, V.ref c])) := same_new nt
    refine ⟨t, rfl, ⟨_, SqT.of upd_same⟩, for_tup (K := K) (a := t) (xs := [V.ref a, V.ref b, V.ref c]) (fun i σ H' => H' = upd H t (.tup [V.ref a, V.ref b, V.ref c]) ∧ ∃ v : Option V, σ = [some (.ref p), some (.ref a), some (.ref b), some (.ref c), v] ∧
      ∀ (m : Nat) (ns : List Int), m < i → [xs, ys, zs][m]? = some ns → ns.length = e.before.length) ⟨rfl, none, rfl, fun m ns hm _ => absurd hm (Nat.not_lt_zero m)⟩ (fun i σ H' _ hP => by rw [hP.1]; exact SqT.of upd_same) ?_ ?_⟩
    · rintro i x σ H' hi ⟨rfl, v, rfl, hprev⟩
      obtain ⟨c', ns, rfl, hns, hc'⟩ : ∃ (c' : Addr) (ns : List Int), x = .ref c' ∧ [xs, ys, zs][i]? = some ns ∧ LI H c' ns := by
        match i, hi with
        | 0, hi => exact ⟨a, xs, (Option.some.inj hi).symm, rfl, ha⟩
        | 1, hi => exact ⟨b, ys, (Option.some.inj hi).symm, rfl, hb⟩
        | 2, hi => exact ⟨c, zs, (Option.some.inj hi).symm, rfl, hc⟩
        | i + 3, hi => simp at hi
      refine ⟨_, rfl, c', _, rfl, .inl (SqL.of (s1 _ _ hc')), _, rfl, p, ea, ws, es, e, rfl, hF.same s1, he, rfl, _, rfl, ?_⟩
      rw [List.length_map]
      refine iteNe (fun h1 => ?_) (fun h1 => ?_)
      · refine bad _ s1 ?_
        match i, hns with
        | 0, hns => have := Option.some.inj hns; subst this; exact .inl (by omega)
        | 1, hns => have := Option.some.inj hns; subst this; exact .inr (.inl (by omega))
        | 2, hns => have := Option.some.inj hns; subst this; exact .inr (.inr (.inl (by omega)))
        | i + 3, hns => simp at hns
      · refine ⟨rfl, _, rfl, fun m ns' hm hm' => ?_⟩
        by_cases q : m = i
        · subst q
          rw [hns] at hm'
          have := Option.some.inj hm'
          subst this
          omega
        · exact hprev m ns' (by omega) hm'
    · rintro σ H' ⟨rfl, v, rfl, hall⟩
      have e1 : xs.length = e.before.length := hall 0 xs (by show 0 < 3; decide) rfl
      have e2 : ys.length = e.before.length := hall 1 ys (by show 1 < 3; decide) rfl
      have e3 : zs.length = e.before.length := hall 2 zs (by show 2 < 3; decide) rfl
      refine ⟨_, rfl, a, 0, 1000000000000, xs, rfl, s1 _ _ ha, lx, fun H1 s1' => ⟨_, rfl, iteNot (fun h3 => ?_) (fun h3 => ?_)⟩⟩
      · exact bad H1 (s1.trans s1') (.inr (.inr (.inr (.inl h3))))
      · refine ⟨_, rfl, _, rfl, b, -1000000000000, 1000000000000, ys, rfl, s1' _ _ (s1 _ _ hb), ly, fun H2 s2' => ⟨_, rfl, iteNot (fun h4 => ?_) (fun h4 => ?_)⟩⟩
        · exact bad H2 ((s1.trans s1').trans s2') (.inr (.inr (.inr (.inr (.inl h4)))))
        · refine ⟨_, rfl, c, 0, 10000000, zs, rfl, s2' _ _ (s1' _ _ (s1 _ _ hc)), lz, fun H3 s3' => ⟨_, rfl, iteNot (fun h5 => ?_) (fun h5 => ?_)⟩⟩
          · exact bad H3 (((s1.trans s1').trans s2').trans s3') (.inr (.inr (.inr (.inr (.inr h5)))))
          · have e0 : rRows e.before.length xs ys zs = 0 := if_neg fun h => by
              rcases h with h | h | h | h | h | h
              · exact h e1
              · exact h e2
              · exact h e3
              · rw [h3] at h; cases h
              · rw [h4] at h; cases h
              · rw [h5] at h; cases h
            have := k H3 (((s1.trans s1').trans s2').trans s3')
            rw [e0] at this
            exact this
/-! #### grown_from_nothing -/
theorem at_neg1 {l : List V} {v : V} (h : l[l.length - 1]? = some v) : atI l (-1) = some v := by
  have hl : l ≠ [] := fun e => by rw [e] at h; simp at h
  have e : l = l.dropLast ++ [v] := by
    have h2 := List.dropLast_concat_getLast hl
    rw [List.getLast_eq_getElem] at h2
    have h3 := (List.getElem?_eq_some_iff.mp h).2
    rw [h3] at h2
    exact h2.symm
  rw [e]
  exact atI_last _ _
def rGrown (h e : List Int) : Bool := (h.zip e).any fun x => x.1 == 0 && decide (0 < x.2)
abbrev sGN : Stmt := top 43
theorem scGN : FnScope ["fund", "before", "last", "had", "value"] ["fund", "before"] (defScope sGN) := ⟨rfl, rfl, rfl, by decide +kernel, rfl, by decide +kernel, by decide +kernel⟩
def spGN (CE CF : Addr) : Sp := fun vs H Q _ => ∃ (p ea a : Addr) (ws : List Int) (es : List EndV) (e : EndV) (xs : List Int), vs = [.ref p, .ref a] ∧ FundAt CE CF H p ea ws es ∧ es[es.length - 1]? = some e ∧ LI H a xs ∧ xs.length ≤ 100000 ∧ Gives H (.bl (rGrown e.behind xs)) Q
theorem any_zip (g : Int → Int → Bool) : ∀ xs ys : List Int, (List.zipWith g xs ys).any id = (xs.zip ys).any fun x => g x.1 x.2
  | [], _ => rfl
  | _ :: _, [] => rfl
  | x :: xs, y :: ys => by
    show (g x y || (List.zipWith g xs ys).any id) = (g x y || (xs.zip ys).any fun x => g x.1 x.2)
    rw [any_zip g xs ys]
theorem ok_GN {n : Nat} {f : Addr} {fd : FuncData} (F : Fun K "grown_from_nothing" "grown_from_nothing" sGN f fd) (T : Txt K mg CE CF CR) : FnOk P w K mg base CX0 (n + 1) f fd ["fund", "before"] (spGN CE CF) := by
  refine F.ok scGN (fun vs H Q E h => ?_) (fun cdv A outer s H vs Q E hr h => ?_)
  · obtain ⟨p, ea, a, ws, es, e, xs, rfl, _⟩ := h
    rfl
  · obtain ⟨p, ea, a, ws, es, e, xs, rfl, hF, he, ha, hl, k⟩ := h
    refine ⟨_, (pss_cons (ps_set (i := 2) scGN.nd rfl (Or.inl rfl) (pe_ix ix_list (pe_fld (pv 0) rfl) (pe_un un_neg pe_int) (fun _ _ => rfl)))
        (pss_one (ps_ret (pe_callB (cr_any rfl) (by rfl) T.nany boot_any (pa_cons (pe_lc (own := [("had", 3), ("value", 4)]) (g := gTup K 2 (gCons (gName 3) (gCons (gName 4) gNil))) rfl scGN.nd (pi_zip (by rfl) T.nzip (pa_cons (pe_fld (pv 2) rfl) (pa_cons (pv 1) pa_nil))) (blkOk_by (N := ["fund", "before", "last", "had", "value"]) (sc := defScope sGN) (by decide +kernel)) (fun _ _ _ _ _ => (pg_tup (n := 2) rfl (pgs_cons (pg_name (i := 3) scGN.nd rfl (Or.inl rfl) (Or.inr rfl)) (pgs_cons (pg_name (i := 4) scGN.nd rfl (Or.inl rfl) (Or.inr rfl)) pgs_nil)))) (fun _ _ _ _ _ => pts_nil) (fun _ _ _ _ _ => (pe_and (pe_cmpR op_eq (pv 3) pe_int (nomark _)) (pe_one (pe_cmpR op_gt (pv 4) pe_int (nomark _)))))) pa_nil))))), ?_⟩
    obtain ⟨dx, wa, hp, _⟩ := hF.fund
    obtain ⟨as, d, h1, h2, h3, ⟨dxe, b, hh, ff, h4, h5, h6, h7⟩⟩ := hF.at_ he
    rw [← h3] at h2
    refine ⟨_, rfl, p, CF, dx, _, _, rfl, hp, T.clF, T.aF_ends, fundF_ends _ _, _, rfl, ea, _, _, _, rfl, rfl, SqL.of h1, at_neg1 h2, ?_⟩
    refine ⟨_, rfl, d, CE, dxe, _, _, rfl, h4, T.clE, T.aE_behind, endF_behind _ _ _ _, _, rfl, hh, a, _, _, rfl, SqL.of h6, SqL.of ha, fun D hD => ?_⟩
    refine lc_zip (K := K) (xs := e.behind.map V.int) (ys := xs.map V.int) ((List.zipWith (fun x y => x == 0 && decide (0 < y)) e.behind xs).map V.bl) hD (SqL.of h6) (SqL.of ha) (by simp) (by simp; have := small hl; omega) ?_ ?_
    · intro i x y z H' T R E' hx hy hz s' hT hR
      obtain ⟨x, hx', rfl⟩ := get_map hx
      obtain ⟨y, hy', rfl⟩ := get_map hy
      obtain ⟨z, hz', rfl⟩ := get_map hz
      have e : z = (x == 0 && decide (0 < y)) := by
        rw [List.getElem?_zipWith, hx', hy'] at hz'
        exact (Option.some.inj hz').symm
      subst e
      refine ⟨T, _, rfl, SqT.of upd_same, rfl, _, _, rfl, _, _, rfl, rfl, rfl, ?_⟩
      refine yesT ?_
      refine ⟨_, rfl, rfl, _, rfl, iteEq (fun h => ?_) (fun h => ?_)⟩
      · subst h
        exact ⟨_, rfl, _, _, rfl, rfl, hR _ (Same.refl _)⟩
      · have e : (x == 0 && decide (0 < y)) = false := by rw [beq_eq_false_iff_ne.mpr h, Bool.false_and]
        rw [← e]
        exact hR _ (Same.refl _)
    · intro H' s' hH
      refine ⟨D, _, rfl, SqL.of hH, ?_⟩
      rw [any_zip]
      exact k H' s'
/-! #### period_refusal -/
def rPeriod (m n : Nat) (last : EndV) (t : Int) (e f b : List Int) : Int :=
  if ¬ (last.time < t ∧ t ≤ 60) then -1 else if rRows m e f b ≠ 0 then -2 else if rGrown last.behind e = true then -6
  else if (List.zipWith (· + ·) e f).any (fun x => decide (x < 0)) = true ∨ isum (List.zipWith (· + ·) e f) < 1 then -7 else if 24 ≤ (n : Int) - 1 then -8 else 0
abbrev sPF : Stmt := top 44
theorem scPF : FnScope ["fund", "time", "before", "flows", "factors", "behind"] ["fund", "time", "before", "flows", "factors"] (defScope sPF) := ⟨rfl, rfl, rfl, by decide +kernel, rfl, by decide +kernel, by decide +kernel⟩
def spPF (CE CF : Addr) : Sp := fun vs H Q _ => ∃ (p ea a b c : Addr) (t : Int) (ws : List Int) (es : List EndV) (e l : EndV) (xs ys zs : List Int), vs = [.ref p, .int t, .ref a, .ref b, .ref c] ∧ FundAt CE CF H p ea ws es ∧ es[0]? = some e ∧ es[es.length - 1]? = some l ∧ 1 ≤ e.before.length ∧
  LI H a xs ∧ LI H b ys ∧ LI H c zs ∧ xs.length ≤ 100000 ∧ ys.length ≤ 100000 ∧ zs.length ≤ 100000 ∧ Gives H (.int (rPeriod e.before.length es.length l t xs ys zs)) Q
theorem rRows_zero {n : Nat} {e f b : List Int} (h : rRows n e f b = 0) : e.length = n ∧ f.length = n ∧ b.length = n ∧ row e 0 1000000000000 = true ∧ row f (-1000000000000) 1000000000000 = true ∧ row b 0 10000000 = true := by
  unfold rRows at h
  split at h
  · cases h
  · rename_i q
    refine ⟨?_, ?_, ?_, ?_, ?_, ?_⟩
    · exact Classical.byContradiction fun z => q (.inl z)
    · exact Classical.byContradiction fun z => q (.inr (.inl z))
    · exact Classical.byContradiction fun z => q (.inr (.inr (.inl z)))
    · exact Bool.not_eq_false _ |>.mp fun z => q (.inr (.inr (.inr (.inl z))))
    · exact Bool.not_eq_false _ |>.mp fun z => q (.inr (.inr (.inr (.inr (.inl z)))))
    · exact Bool.not_eq_false _ |>.mp fun z => q (.inr (.inr (.inr (.inr (.inr z)))))
theorem ok_PF {n : Nat} {f : Addr} {fd : FuncData} (F : Fun K "period_refusal" "period_refusal" sPF f fd) (T : Txt K mg CE CF CR) (c_period_rows_refusal : Cal P w K mg base "period_rows_refusal" n ["fund", "before", "flows", "factors"] (spPR CE CF))
    (c_grown_from_nothing : Cal P w K mg base "grown_from_nothing" n ["fund", "before"] (spGN CE CF)) (c_values_behind : Cal P w K mg base "values_behind" n ["before", "flows"] spVB) :
    FnOk P w K mg base CX0 (n + 1) f fd ["fund", "time", "before", "flows", "factors"] (spPF CE CF) := by
  refine F.ok scPF (fun vs H Q E h => ?_) (fun cdv A outer s H vs Q E hr h => ?_)
  · obtain ⟨p, ea, a, b, c, t, ws, es, e, l, xs, ys, zs, rfl, _⟩ := h
    rfl
  · obtain ⟨p, ea, a, b, c, t, ws, es, e, l, xs, ys, zs, rfl, hF, he, hl, h0, ha, hb, hc, lx, ly, lz, k⟩ := h
    refine ⟨_, (pss_cons (ps_if (pt_not (pt_chain op_lt op_le (pe_fld (pe_ix ix_list (pe_fld (pv 0) rfl) (pe_un un_neg pe_int) (fun _ _ => rfl)) rfl) (pv 1) (pe_const T.c_LATEST_TIME rfl))) (pss_one (ps_ret (pe_const T.c_OUT_OF_RANGE rfl))) pss_nil)
        (pss_cons (ps_if (pt_cmpR op_ne (pe_cal c_period_rows_refusal hr rfl (pa_cons (pv 0) (pa_cons (pv 2) (pa_cons (pv 3) (pa_cons (pv 4) pa_nil))))) (pe_const T.c_NOTHING_REFUSED rfl) (nomark _)) (pss_one (ps_ret (pe_const T.c_WRONG_ROW rfl))) pss_nil)
        (pss_cons (ps_if (pt_val (pe_cal c_grown_from_nothing hr rfl (pa_cons (pv 0) (pa_cons (pv 2) pa_nil)))) (pss_one (ps_ret (pe_const T.c_NOT_AS_TOLD rfl))) pss_nil)
        (pss_cons (ps_set (i := 5) scPF.nd rfl (Or.inl rfl) (pe_cal c_values_behind hr rfl (pa_cons (pv 2) (pa_cons (pv 3) pa_nil))))
        (pss_cons (ps_if (PW.pt (pw_or (pt_cmpR op_lt (pe_callB (cr_min rfl) (by rfl) T.nmin boot_min (pa_cons (pv 5) pa_nil)) pe_int (nomark _)) (pw_or1 (pt_cmpR op_lt (pe_callB (cr_sum rfl) (by rfl) T.nsum boot_sum (pa_cons (pv 5) pa_nil)) pe_int (nomark _))))) (pss_one (ps_ret (pe_const T.c_NOTHING_LEFT rfl))) pss_nil)
        (pss_cons (ps_if (pt_cmpR op_ge (pe_op op_sub (pe_callB call_len_seq (by rfl) T.nlen PySem.boot_len (pa_cons (pe_fld (pv 0) rfl) pa_nil)) pe_int) (pe_const T.c_MOST_ENDS rfl) (nomark _)) (pss_one (ps_ret (pe_const T.c_TOO_MANY rfl))) pss_nil)
        (pss_one (ps_ret (pe_const T.c_NOTHING_REFUSED rfl))))))))), ?_⟩
    obtain ⟨dx, wa, hp, _⟩ := hF.fund
    obtain ⟨as, d, h1, h2, h3, ⟨dxe, b', hh, ff, h4, h5, h6, h7⟩⟩ := hF.at_ hl
    rw [← h3] at h2
    have say : ∀ {H' : Hp} {r : Int}, Same H H' → rPeriod e.before.length es.length l t xs ys zs = r → Q (.int r) H' := fun s' e => by
      rw [← e]
      exact k _ s'
    refine ⟨_, rfl, p, CF, dx, _, _, rfl, hp, T.clF, T.aF_ends, fundF_ends _ _, _, rfl, ea, _, _, _, rfl, rfl, SqL.of h1, at_neg1 h2, d, CE, dxe, _, _, rfl, h4, T.clE, T.aE_time, endF_time _ _ _ _, _, rfl, _, _, rfl, rfl, _, rfl, ?_⟩
    refine iteD (fun q1 => ⟨_, _, rfl, rfl, _, rfl, iteNot (fun q2 => ?_) (fun q2 => ?_)⟩) (fun q1 => ⟨_, rfl, iteT ?_⟩)
    · have q2 := of_decide_eq_false q2
      exact say (Same.refl H) (if_pos fun z => q2 z.2)
    · have q2 := of_decide_eq_true q2
      have c1 : ¬ ¬ (l.time < t ∧ t ≤ 60) := fun z => z ⟨q1, q2⟩
      refine ⟨_, rfl, _, rfl, _, rfl, _, rfl, p, ea, a, b, c, ws, es, e, xs, ys, zs, rfl, hF, he, ha, hb, hc, lx, ly, lz, fun H1 s1 => ⟨rfl, _, rfl, iteNe (fun q3 => ?_) (fun q3 => ?_)⟩⟩
      · exact say s1 (by unfold rPeriod; rw [if_neg c1, if_pos q3])
      · have c2 : ¬ rRows e.before.length xs ys zs ≠ 0 := fun z => z q3
        obtain ⟨r1, r2, r3, r4, r5, r6⟩ := rRows_zero q3
        refine ⟨_, rfl, _, rfl, p, ea, a, ws, es, l, xs, rfl, hF.same s1, hl, s1 _ _ ha, lx, fun H2 s2 => ⟨_, rfl, iteB (fun q4 => ?_) (fun q4 => ?_)⟩⟩
        · exact say (s1.trans s2) (by unfold rPeriod; rw [if_neg c1, if_neg c2, if_pos q4])
        · have c3 : ¬ rGrown l.behind xs = true := by rw [q4]; exact fun z => by cases z
          have s12 := s1.trans s2
          refine ⟨_, rfl, _, rfl, a, b, xs, ys, rfl, s12 _ _ ha, s12 _ _ hb, lx, fun H3 m s3 _ hm => ?_⟩
          have s13 := s12.trans s3
          have hlen : (List.zipWith (· + ·) xs ys).length = e.before.length := by rw [List.length_zipWith]; omega
          refine ⟨_, rfl, m, _, rfl, SqL.of hm, by omega, fun y hy hmin => ⟨_, _, rfl, rfl, _, rfl, iteD (fun q5 => ?_) (fun q5 => ?_)⟩⟩
          · refine iteT ?_
            exact say s13 (by unfold rPeriod; rw [if_neg c1, if_neg c2, if_neg c3, if_pos (.inl (List.any_eq_true.mpr ⟨y, hy, decide_eq_true q5⟩))])
          · refine ⟨_, rfl, m, _, rfl, SqL.of hm, _, _, rfl, rfl, _, rfl, iteD (fun q6 => ?_) (fun q6 => ?_)⟩
            · exact say s13 (by unfold rPeriod; rw [if_neg c1, if_neg c2, if_neg c3, if_pos (.inr (by rw [isum_eq]; exact q6))])
            · have c4 : ¬ ((List.zipWith (· + ·) xs ys).any (fun x => decide (x < 0)) = true ∨ isum (List.zipWith (· + ·) xs ys) < 1) := fun z => by
                rcases z with z | z
                · obtain ⟨x, hx, hx'⟩ := List.any_eq_true.mp z
                  have := hmin x hx
                  have := of_decide_eq_true hx'
                  omega
                · rw [isum_eq] at z
                  exact q6 z
              refine ⟨_, rfl, p, CF, dx, _, _, rfl, s13 _ _ hp, T.clF, T.aF_ends, fundF_ends _ _, ea, _, rfl, .inl (SqL.of (s13 _ _ h1)), _, _, rfl, rfl, _, _, rfl, rfl, _, rfl, ?_⟩
              rw [h3]
              refine iteD (fun q7 => ?_) (fun q7 => ?_)
              · exact say s13 (by unfold rPeriod; rw [if_neg c1, if_neg c2, if_neg c3, if_neg c4, if_pos q7])
              · exact say s13 (by unfold rPeriod; rw [if_neg c1, if_neg c2, if_neg c3, if_neg c4, if_neg q7])
    · exact say (Same.refl H) (if_pos fun z => q1 z.1)
end
end FB
end
section
set_option maxRecDepth 100000
set_option maxHeartbeats 4000000
namespace FB
open PySem PySem.Spec PyProof.Rows L2
open Vbfuan (row isum inside)
section
variable {P : Program} {w : World} {K : PySem.W.Frag} {mg : Str → Option Value} {base : Heap} {CE CF CR : Addr}
/-- a list of ints is given back, the fund is another, all else stays -/
def Moves (CE CF : Addr) (H : Hp) (p ea : Addr) (rs : List Addr) (ws : List Int) (es : List EndV) (ans : List Int) (Q : VK) : Prop :=
  ∀ (H' : Hp) (ea' l : Addr), FundAt CE CF H' p ea' ws es → (∀ c o, H c = some o → c ≠ p → c ≠ ea → H' c = some o) → (∀ t o, H t = some o → t ∉ rs → Apart H p t → Apart H' p t) → H l = Option.none → LI H' l ans → Q (.ref l) H'
theorem Moves.gives {H : Hp} {p ea : Addr} {ws : List Int} {es : List EndV} {ans : List Int} {Q : VK} {rs : List Addr} (m : Moves CE CF H p ea rs ws es ans Q) (hF : FundAt CE CF H p ea ws es) : GivesL H ans Q := fun H' l s' fl hl =>
  m H' ea l (hF.same s') (fun c o e _ _ => s' _ _ e) (fun t o _ _ A => A.same hF s') fl hl
theorem free_kept {H H' : Hp} {p l : Addr} {o : HO} (k : ∀ c u, H c = some u → c ≠ p → H' c = some u) (hp : H' p = some o) (hl : H' l = Option.none) : H l = Option.none := by
  cases q : H l with
  | none => rfl
  | some u =>
    by_cases e : l = p
    · subst e
      rw [hp] at hl
      cases hl
    · rw [k l u q e] at hl
      cases hl
/-! #### begin -/
abbrev sBE : Stmt := top 55
theorem scBE : FnScope ["fund", "parts", "refusal"] ["fund", "parts"] (defScope sBE) := ⟨rfl, rfl, rfl, by decide +kernel, rfl, by decide +kernel, by decide +kernel⟩
def spBE (CE CF : Addr) : Sp := fun vs H Q _ => ∃ (p ea a : Addr) (ws : List Int) (es : List EndV) (ns : List Int), vs = [.ref p, .ref a] ∧ FundAt CE CF H p ea ws es ∧ LI H a ns ∧ ns.length ≤ 100000 ∧
  (rStart ns ≠ 0 → GivesL H [rStart ns] Q) ∧ (rStart ns = 0 → Moves CE CF H p ea [a] (1000000 :: List.replicate (ns.length - 1) 0) [⟨0, ns, ns, []⟩] [isum ns] Q)
theorem fs_some {H : Hp} {p ea : Addr} {ws : List Int} {es : List EndV} (hF : FundAt CE CF H p ea ws es) {a : Addr} {xs : List V} (h : H a = some (.lst xs)) : a ≠ p := by
  obtain ⟨dx, wa, hp, _⟩ := hF.fund
  exact ne_of h hp (by intro z; cases z)
theorem rStart_zero {ns : List Int} (h : rStart ns = 0) : 1 ≤ ns.length ∧ ns.length ≤ 6 ∧ row ns 0 1000000000 = true ∧ 1 ≤ isum ns := by
  unfold rStart at h
  split at h
  · cases h
  · rename_i q
    refine ⟨?_, ?_, ?_, ?_⟩
    · exact Classical.byContradiction fun z => q (.inl (by omega))
    · exact Classical.byContradiction fun z => q (.inr (.inl (by omega)))
    · exact Bool.not_eq_false _ |>.mp fun z => q (.inr (.inr (.inl z)))
    · exact Classical.byContradiction fun z => q (.inr (.inr (.inr (by omega))))
theorem ok_BE {n : Nat} {f : Addr} {fd : FuncData} (F : Fun K "begin" "begin" sBE f fd) (T : Txt K mg CE CF CR) (c_start_refusal : Cal P w K mg base "start_refusal" n ["row"] spSR) (m_start_anew : Mth P w K mg base CF "start_anew" n ["self", "parts"] (spSA CE CF)) :
    FnOk P w K mg base CX0 (n + 1) f fd ["fund", "parts"] (spBE CE CF) := by
  refine F.ok scBE (fun vs H Q E h => ?_) (fun cdv A outer s H vs Q E hr h => ?_)
  · obtain ⟨p, ea, a, ws, es, ns, rfl, _⟩ := h
    rfl
  · obtain ⟨p, ea, a, ws, es, ns, rfl, hF, ha, hl, k1, k2⟩ := h
    refine ⟨_, (pss_cons (ps_set (i := 2) scBE.nd rfl (Or.inl rfl) (pe_cal c_start_refusal hr rfl (pa_cons (pv 1) pa_nil)))
        (pss_cons (ps_if (pt_cmpR op_ne (pv 2) (pe_const T.c_NOTHING_REFUSED rfl) (nomark _)) (pss_one (ps_ret (pe_lst (pa_cons (pv 2) pa_nil)))) pss_nil)
        (pss_cons (ps_expr (pe_mth m_start_anew hr (pv 0) (pa_cons (pv 1) pa_nil)))
        (pss_one (ps_ret (pe_lst (pa_cons (pe_callB (cr_sum rfl) (by rfl) T.nsum boot_sum (pa_cons (pv 1) pa_nil)) pa_nil))))))), ?_⟩
    refine ⟨_, rfl, a, ns, rfl, ha, hl, fun H1 s1 => ?_⟩
    refine ⟨_, rfl, rfl, _, rfl, iteNe (fun q => ?_) (fun q => ?_)⟩
    · refine ⟨_, rfl, (by show 1 ≤ sizeLine; decide), fun l nl => ?_⟩
      exact k1 q _ l (s1.trans (same_new nl)) (s1.free nl) upd_same
    · obtain ⟨dx, wa, hp, _⟩ := (hF.same s1).fund
      obtain ⟨r1, r2, _, _⟩ := rStart_zero q
      have na := fs_some hF ha
      refine ⟨_, rfl, p, dx, _, rfl, hp, (lk_ne (by decide +kernel)).trans ((lk_ne (by decide +kernel)).trans lk_nil), _, rfl, p, dx, a, _, ns, rfl, hp, .inr ⟨wa, ea, rfl⟩, s1 _ _ ha, r1, hl, fun H2 ea' hF2 kp aP => ?_⟩
      have ha2 : LI H2 a ns := kp _ _ (s1 _ _ ha) na
      refine ⟨_, rfl, a, ns, rfl, SqL.of ha2, (by show 1 ≤ sizeLine; decide), fun l nl => ?_⟩
      refine k2 q _ ea' l (hF2.same (same_new nl)) (fun c o e hc _ => same_new nl _ _ (kp _ _ (s1 _ _ e) hc)) (fun t o ht nt _ => (aP t o (s1 _ _ ht) (fun z => nt (by rw [z]; exact List.mem_singleton.mpr rfl))).same hF2 (same_new nl)) (by
        obtain ⟨dx2, wa2, hp2, _⟩ := hF2.fund
        exact s1.free (free_kept kp hp2 nl)) ?_
      rw [LI, isum_eq]
      exact upd_same
/-! #### change_weights -/
abbrev sCW : Stmt := top 56
theorem scCW : FnScope ["fund", "row", "refusal"] ["fund", "row"] (defScope sCW) := ⟨rfl, rfl, rfl, by decide +kernel, rfl, by decide +kernel, by decide +kernel⟩
def spCW (CE CF : Addr) : Sp := fun vs H Q _ => ∃ (p ea a : Addr) (ws : List Int) (es : List EndV) (e : EndV) (ns : List Int), vs = [.ref p, .ref a] ∧ FundAt CE CF H p ea ws es ∧ es[0]? = some e ∧ LI H a ns ∧ ns.length ≤ 100000 ∧
  (rWeights e.before.length ns ≠ 0 → GivesL H [rWeights e.before.length ns] Q) ∧ (rWeights e.before.length ns = 0 → Moves CE CF H p ea [a] ns es [0] Q)
theorem FundAt.weights {H : Hp} {p ea : Addr} {ws ns : List Int} {es : List EndV} {a dx wa : Addr} (hF : FundAt CE CF H p ea ws es) (hp : H p = some (.ins CF dx (fundF wa ea))) (ha : LI H a ns) : FundAt CE CF (upd H p (.ins CF dx (fundF a ea))) p ea ns es := by
  obtain ⟨as, h1, h2, h3⟩ := hF.lst
  have nl : ∀ {c : Addr} {xs : List V}, H c = some (.lst xs) → c ≠ p := fun h => ne_of h hp (by intro z; cases z)
  have up : ∀ {c : Addr} {o : HO}, H c = some o → c ≠ p → (upd H p (.ins CF dx (fundF a ea))) c = some o := fun h hc => by rw [upd_ne hc]; exact h
  refine ⟨⟨dx, a, upd_same, up ha (nl ha)⟩, as, up h1 (nl h1), h2, fun i b e hb he => ?_⟩
  obtain ⟨dxe, b', hh, ff, h4, h5, h6, h7⟩ := (h3 i b e hb he).ex
  have nb : b ≠ p := ne_of h4 hp fun z => by
    injection z with z1 z2 z3
    have z4 := congrArg (fun fs => List.lookup ("time" : Str) fs) z3
    simp only [endF_time] at z4
    rw [show List.lookup ("time" : Str) (fundF wa ea) = Option.none from (lk_ne (by decide +kernel)).trans ((lk_ne (by decide +kernel)).trans lk_nil)] at z4
    cases z4
  exact ⟨dxe, b', hh, ff, up h4 nb, up h5 (nl h5), up h6 (nl h6), up h7 (nl h7)⟩
theorem weights_apart {H : Hp} {p ea t : Addr} {ws : List Int} {es : List EndV} {a dx wa : Addr} (hF : FundAt CE CF H p ea ws es) (Ap : Apart H p t) (hp : H p = some (.ins CF dx (fundF wa ea))) (nt : a ≠ t) : Apart (upd H p (.ins CF dx (fundF a ea))) p t := by
  intro C' dx' wa' ea' q
  rw [upd_same] at q
  obtain ⟨e1, e2⟩ := fundF_inj (by injection Option.some.inj q)
  subst e1 e2
  obtain ⟨a1, a2, a3⟩ := Ap _ _ _ _ hp
  obtain ⟨as, h1, h2, h3⟩ := hF.lst
  have ne : ea ≠ p := ne_of h1 hp (by intro z; cases z)
  refine ⟨nt, a2, fun as' q' b hb => ?_⟩
  rw [upd_ne ne] at q'
  intro C2 dx2 tm2 b2 h2' f2 q2
  by_cases hbp : b = p
  · subst hbp
    rw [upd_same] at q2
    have z3 : fundF a ea = endF tm2 b2 h2' f2 := by injection Option.some.inj q2
    have z4 := congrArg (fun fs => List.lookup ("time" : Str) fs) z3
    simp only [endF_time] at z4
    rw [show List.lookup ("time" : Str) (fundF a ea) = Option.none from (lk_ne (by decide +kernel)).trans ((lk_ne (by decide +kernel)).trans lk_nil)] at z4
    cases z4
  · rw [upd_ne hbp] at q2
    exact a3 as' q' b hb _ _ _ _ _ _ q2
theorem ok_CW {n : Nat} {f : Addr} {fd : FuncData} (F : Fun K "change_weights" "change_weights" sCW f fd) (T : Txt K mg CE CF CR) (c_weights_refusal : Cal P w K mg base "weights_refusal" n ["fund", "row"] (spWR CE CF)) : FnOk P w K mg base CX0 (n + 1) f fd ["fund", "row"] (spCW CE CF) := by
  refine F.ok scCW (fun vs H Q E h => ?_) (fun cdv A outer s H vs Q E hr h => ?_)
  · obtain ⟨p, ea, a, ws, es, e, ns, rfl, _⟩ := h
    rfl
  · obtain ⟨p, ea, a, ws, es, e, ns, rfl, hF, he, ha, hl, k1, k2⟩ := h
    refine ⟨_, (pss_cons (ps_set (i := 2) scCW.nd rfl (Or.inl rfl) (pe_cal c_weights_refusal hr rfl (pa_cons (pv 0) (pa_cons (pv 1) pa_nil))))
        (pss_cons (ps_if (pt_cmpR op_ne (pv 2) (pe_const T.c_NOTHING_REFUSED rfl) (nomark _)) (pss_one (ps_ret (pe_lst (pa_cons (pv 2) pa_nil)))) pss_nil)
        (pss_cons (ps_fld (pv 0) (pv 1) rfl)
        (pss_one (ps_ret (pe_lst (pa_cons pe_int pa_nil))))))), ?_⟩
    refine ⟨_, rfl, _, rfl, p, ea, a, ws, es, e, ns, rfl, hF, he, ha, hl, fun H1 s1 => ?_⟩
    refine ⟨_, rfl, rfl, _, rfl, iteNe (fun q => ?_) (fun q => ?_)⟩
    · refine ⟨_, rfl, (by show 1 ≤ sizeLine; decide), fun l nl => ?_⟩
      exact k1 q _ l (s1.trans (same_new nl)) (s1.free nl) upd_same
    · obtain ⟨dx, wa, hp, _⟩ := (hF.same s1).fund
      refine ⟨_, rfl, _, rfl, p, CF, dx, _, rfl, hp, T.clF, T.aF_weights, (by show 2 < 1000; decide), ?_⟩
      rw [fundF_w]
      refine ⟨(by show 1 ≤ sizeLine; decide), fun l nl => ?_⟩
      exact k2 q _ ea l (((hF.same s1).weights hp (s1 _ _ ha)).same (same_new nl)) (fun c o e hc _ => same_new nl _ _ (by rw [upd_ne hc]; exact s1 _ _ e)) (fun t o ht nt Ap => (weights_apart (hF.same s1) (Ap.same hF s1) hp (fun z => nt (by rw [z]; exact List.mem_singleton.mpr rfl))).same ((hF.same s1).weights hp (s1 _ _ ha)) (same_new nl)) (s1.free (free_kept (fun c u e hc => by rw [upd_ne hc]; exact e) upd_same nl)) upd_same
/-! #### add_period -/
abbrev sAP : Stmt := top 57
theorem scAP : FnScope ["fund", "time", "before", "flows", "factors", "refusal", "number"] ["fund", "time", "before", "flows", "factors"] (defScope sAP) := ⟨rfl, rfl, rfl, by decide +kernel, rfl, by decide +kernel, by decide +kernel⟩
def spAP (CE CF : Addr) : Sp := fun vs H Q _ => ∃ (p ea a b c : Addr) (t : Int) (ws : List Int) (es : List EndV) (e l : EndV) (xs ys zs : List Int), vs = [.ref p, .int t, .ref a, .ref b, .ref c] ∧ FundAt CE CF H p ea ws es ∧ es[0]? = some e ∧ es[es.length - 1]? = some l ∧ 1 ≤ e.before.length ∧
  LI H a xs ∧ LI H b ys ∧ LI H c zs ∧ xs.length ≤ 100000 ∧ ys.length ≤ 100000 ∧ zs.length ≤ 100000 ∧
  (rPeriod e.before.length es.length l t xs ys zs ≠ 0 → GivesL H [rPeriod e.before.length es.length l t xs ys zs] Q) ∧
  (rPeriod e.before.length es.length l t xs ys zs = 0 → Moves CE CF H p ea [a, b, c] ws (es ++ [⟨t, xs, List.zipWith (· + ·) xs ys, zs⟩]) [(es.length : Int)] Q)
theorem rPeriod_zero {m n : Nat} {l : EndV} {t : Int} {e f b : List Int} (h : rPeriod m n l t e f b = 0) : (n : Int) - 1 < 24 := by
  unfold rPeriod at h
  split at h
  · cases h
  split at h
  · cases h
  split at h
  · cases h
  split at h
  · cases h
  split at h
  · cases h
  · omega
theorem ints_ne_refs {ns : List Int} {as : List Addr} (h : as ≠ []) : HO.lst (ns.map V.int) ≠ HO.lst (as.map V.ref) := by
  intro z
  injection z with z
  cases as with
  | nil => exact h rfl
  | cons a r =>
    cases ns with
    | nil => cases z
    | cons m ms => cases z
theorem ok_AP {n : Nat} {f : Addr} {fd : FuncData} (F : Fun K "add_period" "add_period" sAP f fd) (T : Txt K mg CE CF CR) (c_period_refusal : Cal P w K mg base "period_refusal" (n + 1) ["fund", "time", "before", "flows", "factors"] (spPF CE CF))
    (c_End : Mkr P w K mg base CE "End" n ["self", "time", "before", "flows", "factors"] (spEI CE)) : FnOk P w K mg base CX0 (n + 2) f fd ["fund", "time", "before", "flows", "factors"] (spAP CE CF) := by
  refine F.ok scAP (fun vs H Q E h => ?_) (fun cdv A outer s H vs Q E hr h => ?_)
  · obtain ⟨p, ea, a, b, c, t, ws, es, e, l, xs, ys, zs, rfl, _⟩ := h
    rfl
  · obtain ⟨p, ea, a, b, c, t, ws, es, e, l, xs, ys, zs, rfl, hF, he, hl, h0, ha, hb, hc, lx, ly, lz, k1, k2⟩ := h
    refine ⟨_, (pss_cons (ps_set (i := 5) scAP.nd rfl (Or.inl rfl) (pe_cal c_period_refusal hr rfl (pa_cons (pv 0) (pa_cons (pv 1) (pa_cons (pv 2) (pa_cons (pv 3) (pa_cons (pv 4) pa_nil)))))))
        (pss_cons (ps_if (pt_cmpR op_ne (pv 5) (pe_const T.c_NOTHING_REFUSED rfl) (nomark _)) (pss_one (ps_ret (pe_lst (pa_cons (pv 5) pa_nil)))) pss_nil)
        (pss_cons (ps_set (i := 6) scAP.nd rfl (Or.inl rfl) (pe_callB call_len_seq (by rfl) T.nlen PySem.boot_len (pa_cons (pe_fld (pv 0) rfl) pa_nil)))
        (pss_cons (ps_expr (pe_bm PySem.F.plainAttrs_list PySem.F.slot_list_append PySem.F.type_list_append mt_append (pe_fld (pv 0) rfl) (pa_cons (pe_mkr c_End hr rfl (pa_cons (pv 1) (pa_cons (pv 2) (pa_cons (pv 3) (pa_cons (pv 4) pa_nil))))) pa_nil)))
        (pss_one (ps_ret (pe_lst (pa_cons (pv 6) pa_nil)))))))), ?_⟩
    refine ⟨_, rfl, _, rfl, _, rfl, _, rfl, _, rfl, p, ea, a, b, c, t, ws, es, e, l, xs, ys, zs, rfl, hF, he, hl, h0, ha, hb, hc, lx, ly, lz, fun H1 s1 => ?_⟩
    refine ⟨_, rfl, rfl, _, rfl, iteNe (fun q => ?_) (fun q => ?_)⟩
    · refine ⟨_, rfl, (by show 1 ≤ sizeLine; decide), fun l nl => ?_⟩
      exact k1 q _ l (s1.trans (same_new nl)) (s1.free nl) upd_same
    · have hF1 := hF.same s1
      obtain ⟨dx, wa, hp, hw⟩ := hF1.fund
      obtain ⟨as, g1, g2, g3⟩ := hF1.lst
      have h24 := rPeriod_zero q
      refine ⟨_, rfl, p, CF, dx, _, _, rfl, hp, T.clF, T.aF_ends, fundF_ends _ _, ea, _, rfl, .inl (SqL.of g1), ?_⟩
      rw [List.length_map, g2]
      refine ⟨_, rfl, p, CF, dx, _, _, rfl, hp, T.clF, T.aF_ends, fundF_ends _ _, .inl ⟨rfl, _, SqL.of g1⟩, _, rfl, _, rfl, _, rfl, _, rfl, ?_⟩
      intro x dxx nx ndx nex
      have s2 : Same H1 (upd (upd H1 dxx (.own x)) x (.ins CE dxx [])) := (same_new ndx).trans (same_new (by rw [upd_ne (fun q => nex q.symm)]; exact nx))
      refine ⟨x, dxx, a, b, c, t, xs, ys, zs, rfl, upd_same, s2 _ _ (s1 _ _ ha), s2 _ _ (s1 _ _ hb), s2 _ _ (s1 _ _ hc), lx, fun H2 hE kp aE => ⟨rfl, ?_⟩⟩
      have s3 : Same H1 H2 := fun c o e => kp _ _ (s2 _ _ e) (ne_of_none e nx)
      refine ⟨ea, _, _, rfl, rfl, s3 _ _ g1, (by rw [List.length_map, g2]; show _ < sizeLine; exact Nat.lt_of_lt_of_le (show es.length < 26 by omega) (by decide)), ?_⟩
      have eL : as.map V.ref ++ [V.ref x] = (as ++ [x]).map V.ref := by rw [List.map_append]; rfl
      rw [eL]
      have g1' := s3 _ _ g1
      have es0 : es ≠ [] := fun z => by rw [z] at he; simp at he
      have as0 : as ≠ [] := fun z => by
        rw [z] at g2
        exact es0 (List.length_eq_zero_iff.mp g2.symm)
      have up : ∀ {c : Addr} {o : HO}, H2 c = some o → c ≠ ea → (upd H2 ea (.lst ((as ++ [x]).map V.ref))) c = some o := fun h hc => by rw [upd_ne hc]; exact h
      have nI : ∀ {c : Addr} {C' dx' : Addr} {fs : List (Str × V)}, H2 c = some (.ins C' dx' fs) → c ≠ ea := fun h => ne_of h g1' (by intro z; cases z)
      have nL : ∀ {c : Addr} {ns : List Int}, LI H2 c ns → c ≠ ea := fun h => ne_of h g1' (ints_ne_refs as0)
      have hF3 : FundAt CE CF (upd H2 ea (.lst ((as ++ [x]).map V.ref))) p ea ws (es ++ [⟨t, xs, List.zipWith (· + ·) xs ys, zs⟩]) := by
        have h2 := s3 _ _ hw
        refine ⟨⟨dx, wa, up (s3 _ _ hp) (nI (s3 _ _ hp)), up h2 (nL h2)⟩, as ++ [x], upd_same, by rw [List.length_append, List.length_append, g2]; rfl, fun i d e' hd he' => ?_⟩
        have E' : EndAt CE H2 d e' := by
          by_cases hi : i < as.length
          · rw [List.getElem?_append_left hi] at hd
            rw [List.getElem?_append_left (by omega)] at he'
            exact (g3 i d e' hd he').same s3
          · have hi' : i = as.length := by
              have := (List.getElem?_eq_some_iff.mp hd).1
              rw [List.length_append] at this
              have : i < as.length + 1 := this
              omega
            subst hi'
            rw [List.getElem?_append_right (Nat.le_refl _), Nat.sub_self] at hd
            rw [g2, List.getElem?_append_right (Nat.le_refl _), Nat.sub_self] at he'
            have e1 : x = d := Option.some.inj hd
            have e2 := Option.some.inj he'
            subst e1 e2
            exact hE
        obtain ⟨dxe, b', hh, ff, h4, h5, h6, h7⟩ := E'.ex
        exact ⟨dxe, b', hh, ff, up h4 (nI h4), up h5 (nL h5), up h6 (nL h6), up h7 (nL h7)⟩
      have hF3a : ∀ t' o', H t' = some o' → t' ∉ [a, b, c] → Apart H p t' → Apart (upd H2 ea (.lst ((as ++ [x]).map V.ref))) p t' := fun t' o' ht nt Ap => by
        have A2 := Ap.same hF (s1.trans s3)
        intro C2 dx2 wa2 ea2 q2
        rw [upd_ne (nI (s3 _ _ hp))] at q2
        obtain ⟨e1, e2⟩ := fundF_inj (ins_inj (s3 _ _ hp) q2)
        subst e1 e2
        obtain ⟨a1, a2, a3⟩ := A2 _ _ _ _ (s3 _ _ hp)
        refine ⟨a1, a2, fun as' q' d hd => ?_⟩
        rw [upd_same] at q'
        have e3 := refs_inj (as := as ++ [x]) (bs := as') (by injection Option.some.inj q')
        subst e3
        intro C3 dx3 tm3 b3 h3 f3 q4
        have nd : d ≠ ea := fun z => by
          rw [z, upd_same] at q4
          cases Option.some.inj q4
        rw [upd_ne nd] at q4
        rcases List.mem_append.mp hd with hd | hd
        · exact a3 as g1' d hd _ _ _ _ _ _ q4
        · have e4 := List.mem_singleton.mp hd
          subst e4
          simp only [List.mem_cons, List.not_mem_nil, or_false, not_or] at nt
          exact aE _ _ (s2 _ _ (s1 _ _ ht)) (fun z => nt.1 z.symm) (fun z => nt.2.2 z.symm) _ _ _ _ _ _ q4
      refine ⟨_, rfl, (by show 1 ≤ sizeLine; decide), fun l nl => ?_⟩
      exact k2 q _ ea l (hF3.same (same_new nl)) (fun c o e _ hc => same_new nl _ _ (up (s3 _ _ (s1 _ _ e)) hc)) (fun t' o' ht nt Ap => Apart.same (hF3a t' o' ht nt Ap) hF3 (same_new nl)) (s1.free (s3.free (free_kept (fun c u e hc => up e hc) upd_same nl))) upd_same
end
end FB
end
section
set_option maxRecDepth 100000
set_option maxHeartbeats 4000000
namespace FB
open Vbfuan
/-! ### the specification's state as the program holds it -/
def toZ (l : List Nat) : List Int := l.map fun (n : Nat) => (n : Int)
def endOf (s : State) (m : Nat) : EndV := ⟨(timeOf s m : Nat), toZ (before s m), toZ (after s m), if m = 0 then [] else toZ (periodAt s m).bench⟩
def endsOf (s : State) : List EndV := (List.range (count s + 1)).map (endOf s)
theorem toZ_sum : ∀ l : List Nat, (toZ l).sum = (nsum l : Int)
  | [] => rfl
  | a :: l => by
    show ((a : Int) :: toZ l).sum = ((a + nsum l : Nat) : Int)
    rw [List.sum_cons, toZ_sum l]
    omega
theorem toZ_length (l : List Nat) : (toZ l).length = l.length := List.length_map _
theorem endsOf_length (s : State) : (endsOf s).length = count s + 1 := by unfold endsOf; rw [List.length_map, List.length_range]
theorem endsOf_at {s : State} {m : Nat} (h : m ≤ count s) : (endsOf s)[m]? = some (endOf s m) := by
  unfold endsOf
  rw [List.getElem?_map, List.getElem?_range (by omega)]
  rfl
structure Good (s : State) : Prop where
  parts1 : 1 ≤ s.first.length
  parts6 : s.first.length ≤ 6
  wlen : s.weights.length = s.first.length
  wle : ∀ x ∈ s.weights, x ≤ 1000000
  cnt : count s ≤ 24
  blen : ∀ m, m ≤ count s → (before s m).length = s.first.length
  alen : ∀ m, m ≤ count s → (after s m).length = s.first.length
  ble : ∀ m, m ≤ count s → ∀ x ∈ before s m, x ≤ 1000000000000
  ale : ∀ m, m ≤ count s → ∀ x ∈ after s m, x ≤ 2000000000000
  apos : ∀ m, m ≤ count s → 1 ≤ nsum (after s m)
  qlen : ∀ m, 1 ≤ m → m ≤ count s → (periodAt s m).bench.length = s.first.length
  qle : ∀ m, 1 ≤ m → m ≤ count s → ∀ x ∈ (periodAt s m).bench, x ≤ 10000000
  flow : ∀ m, 1 ≤ m → m ≤ count s → (nsum (after s m) : Int) = (nsum (before s m) : Int) + isum (periodAt s m).flows
  tmono : ∀ m, m < count s → timeOf s m < timeOf s (m + 1)
  t60 : ∀ m, m ≤ count s → timeOf s m ≤ 60
theorem nsum_le {B : Nat} : ∀ {l : List Nat}, (∀ x ∈ l, x ≤ B) → nsum l ≤ l.length * B
  | [], _ => Nat.zero_le _
  | a :: l, h => by
    have h1 := h a (List.Mem.head _)
    have h2 := nsum_le (l := l) fun x hx => h x (List.Mem.tail _ hx)
    show a + nsum l ≤ (l.length + 1) * B
    rw [Nat.add_mul]
    omega
theorem Good.pos {s : State} (g : Good s) : FM.Pos s := fun m h => g.apos m h
theorem Good.bsum {s : State} (g : Good s) {m : Nat} (h : m ≤ count s) : nsum (before s m) ≤ 6000000000000 := by
  have h1 := nsum_le (g.ble m h)
  rw [g.blen m h] at h1
  have := Nat.mul_le_mul_right 1000000000000 g.parts6
  omega
theorem Good.asum {s : State} (g : Good s) {m : Nat} (h : m ≤ count s) : nsum (after s m) ≤ 12000000000000 := by
  have h1 := nsum_le (g.ale m h)
  rw [g.alen m h] at h1
  have := Nat.mul_le_mul_right 2000000000000 g.parts6
  omega
theorem prodI_le {f : Nat → Int} {j B : Nat} : ∀ {i : Nat}, (∀ m, j < m → m ≤ j + i → (f m).natAbs ≤ 2 ^ B) → (FM.prodI f j i).natAbs ≤ 2 ^ (B * i)
  | 0, _ => by rw [FM.prodI_zero]; exact Nat.le_of_eq (by rw [Nat.mul_zero]; rfl)
  | i + 1, h => by
    rw [FM.prodI_succ, Int.natAbs_mul, Nat.mul_succ, Nat.pow_add]
    exact Nat.mul_le_mul (prodI_le fun m a b => h m a (by omega)) (h _ (by omega) (by omega))
theorem lim_of {x : Int} {n : Nat} (h : x.natAbs ≤ 2 ^ n) (hn : n < 8000) : Lim x := Nat.lt_of_le_of_lt h (Nat.pow_lt_pow_right (by decide) hn)
theorem Good.prod_su {s : State} (g : Good s) {j i : Nat} (h : j + i ≤ count s) : 0 < FM.prodI (fun m => (FM.su s m : Int)) j i ∧ Lim (FM.prodI (fun m => (FM.su s m : Int)) j i) := by
  refine ⟨FM.prodN_pos _ _ _ fun m a b => g.pos.su h a b, ?_⟩
  have := g.cnt
  refine lim_of (n := 44 * i) (prodI_le fun m a b => ?_) (by omega)
  have h1 : FM.su s m ≤ 12000000000000 := g.asum (m := m - 1) (by omega)
  rw [Int.natAbs_natCast]
  exact Nat.le_trans h1 (by decide)
theorem prod_mil {j i : Nat} (h : i ≤ 24) : 0 < FM.prodI (fun _ => (1000000000000 : Int)) j i ∧ Lim (FM.prodI (fun _ => (1000000000000 : Int)) j i) := by
  refine ⟨FM.prodN_pos (fun _ => 1000000000000) j i fun _ _ _ => by decide, lim_of (n := 44 * i) (prodI_le fun m a b => by decide) (by omega)⟩
end FB
end
section
set_option maxRecDepth 100000
set_option maxHeartbeats 4000000
namespace FB
open PySem PySem.Spec PyProof.Rows L2
open Vbfuan (State count nsum)
abbrev FundS (CE CF : Addr) (H : Hp) (p ea : Addr) (s : State) : Prop := FundAt CE CF H p ea (toZ s.weights) (endsOf s)
/-- a new fraction in least terms is given back, all else stays -/
def GivesT (H : Hp) (a b : Int) (Q : VK) : Prop := ∀ (H' : Hp) (t : Addr), Same H H' → H' t = some (.tup ((FM.lowest a b).map V.int)) → Q (.ref t) H'
section
variable {P : Program} {w : World} {K : PySem.W.Frag} {mg : Str → Option Value} {base : Heap} {CE CF CR : Addr}
theorem FundAt.see {H : Hp} {p ea : Addr} {s : State} (x : FundS CE CF H p ea s) {m : Nat} (h : m ≤ count s) :
    ∃ (dx wa : Addr) (as : List Addr) (a dxe b hh ff : Addr), H p = some (.ins CF dx (fundF wa ea)) ∧ LI H wa (toZ s.weights) ∧ H ea = some (.lst (as.map V.ref)) ∧ (as.map V.ref)[m]? = some (V.ref a) ∧
      H a = some (.ins CE dxe (endF (Vbfuan.timeOf s m : Nat) b hh ff)) ∧ LI H b (toZ (Vbfuan.before s m)) ∧ LI H hh (toZ (Vbfuan.after s m)) ∧ LI H ff (endOf s m).factors := by
  obtain ⟨dx, wa, h1, h2⟩ := x.fund
  obtain ⟨as, a, h3, h4, h5, ⟨dxe, b, hh, ff, h6, h7, h8, h9⟩⟩ := x.at_ (endsOf_at h)
  exact ⟨dx, wa, as, a, dxe, b, hh, ff, h1, h2, h3, h4, h6, h7, h8, h9⟩
/-! #### linked_factor -/
abbrev sLF : Stmt := top 17
theorem scLF : FnScope ["fund", "j", "k", "over", "under", "m"] ["fund", "j", "k"] (defScope sLF) := ⟨rfl, rfl, rfl, by decide +kernel, rfl, by decide +kernel, by decide +kernel⟩
def spLF (CE CF : Addr) : Sp := fun vs H Q _ => ∃ (p ea : Addr) (s : State) (j i : Nat), vs = [.ref p, .int j, .int (j + i : Nat)] ∧ FundS CE CF H p ea s ∧ Good s ∧ j + i ≤ count s ∧ GivesT H (FM.prodI (FM.so s) j i) (FM.prodI (fun m => (FM.su s m : Int)) j i) Q
theorem ok_LF {n : Nat} {f : Addr} {fd : FuncData} (F : Fun K "linked_factor" "linked_factor" sLF f fd) (T : Txt K mg CE CF CR) (c_least : Cal P w K mg base "least" n ["over", "under"] spLeast) : FnOk P w K mg base CX0 (n + 1) f fd ["fund", "j", "k"] (spLF CE CF) := by
  refine F.ok scLF (fun vs H Q E h => ?_) (fun cdv A outer s H vs Q E hr h => ?_)
  · obtain ⟨p, ea, s, j, i, rfl, _⟩ := h
    rfl
  · obtain ⟨p, ea, s, j, i, rfl, hF, hG, hi, k⟩ := h
    refine ⟨_, (pss_cons (ps_set (i := 3) scLF.nd rfl (Or.inl rfl) pe_int)
        (pss_cons (ps_set (i := 4) scLF.nd rfl (Or.inl rfl) pe_int)
        (pss_cons (ps_for PassesOwn.never rfl (pi_range2 (by rfl) T.nrange (pa_cons (pe_op op_add (pv 1) pe_int) (pa_cons (pe_op op_add (pv 2) pe_int) pa_nil))) (pg_name (i := 5) scLF.nd rfl (Or.inl rfl)) (pss_cons (ps_set (i := 3) scLF.nd rfl (Or.inl rfl) (pe_op op_mul (pv 3) (pe_callB (cr_sum rfl) (by rfl) T.nsum boot_sum (pa_cons (pe_fld (pe_ix ix_list (pe_fld (pv 0) rfl) (pv 5) (fun _ _ => rfl)) rfl) pa_nil))))
        (pss_one (ps_set (i := 4) scLF.nd rfl (Or.inl rfl) (pe_op op_mul (pv 4) (pe_callB (cr_sum rfl) (by rfl) T.nsum boot_sum (pa_cons (pe_fld (pe_ix ix_list (pe_fld (pv 0) rfl) (pe_op op_sub (pv 5) pe_int) (fun _ _ => rfl)) rfl) pa_nil)))))))
        (pss_one (ps_ret (pe_cal c_least hr rfl (pa_cons (pv 3) (pa_cons (pv 4) pa_nil)))))))), ?_⟩
    have hc := hG.cnt
    refine ⟨_, rfl, _, _, rfl, rfl, _, rfl, _, _, rfl, rfl, _, _, rfl, (by omega), ?_⟩
    have en : (((j + i : Nat) : Int) + 1 - ((j : Int) + 1)).toNat = i := by omega
    rw [en]
    refine for_range (fun i' σ H' => H' = H ∧ ∃ v : Option V, σ = [some (.ref p), some (.int j), some (.int (j + i : Nat)), some (.int (FM.prodI (FM.so s) j i')), some (.int (FM.prodI (fun m => (FM.su s m : Int)) j i')), v]) ⟨rfl, none, by rw [FM.prodI_zero, FM.prodI_zero]; rfl⟩ ?_ ?_
    · rintro i' σ H' hi' ⟨rfl, v, rfl⟩
      obtain ⟨dx, wa, as, a, dxe, b, hh, ff, h1, h2, h3, h4, h5, h6, h7, h8⟩ := hF.see (m := j + 1 + i') (by omega)
      refine ⟨_, rfl, _, rfl, p, CF, dx, _, _, rfl, h1, T.clF, T.aF_ends, fundF_ends _ _, _, rfl, ea, _, _, _, rfl, rfl, SqL.of h3, at_of (j := j + 1 + i') (by omega) h4, a, CE, dxe, _, _, rfl, h5, T.clE, T.aE_before, endF_before _ _ _ _, b, _, rfl, SqL.of h6, _, _, rfl, rfl, .inr ?_, ?_⟩
      · rw [toZ_sum]
        have := hG.bsum (m := j + 1 + i') (by omega)
        omega
      rw [toZ_sum]
      obtain ⟨dx', wa', as', a', dxe', b', hh', ff', g1, g2, g3, g4, g5, g6, g7, g8⟩ := hF.see (m := j + i') (by omega)
      refine ⟨_, rfl, _, rfl, p, CF, dx', _, _, rfl, g1, T.clF, T.aF_ends, fundF_ends _ _, _, rfl, _, _, rfl, rfl, ea, _, _, _, rfl, rfl, SqL.of g3, at_of (j := j + i') (by omega) g4, a', CE, dxe', _, _, rfl, g5, T.clE, T.aE_behind, endF_behind _ _ _ _, hh', _, rfl, SqL.of g7, _, _, rfl, rfl, .inr ?_, ?_⟩
      · rw [toZ_sum]
        have := hG.asum (m := j + i') (by omega)
        omega
      rw [toZ_sum]
      refine ⟨rfl, some (.int ((j : Int) + 1 + (i' : Int))), ?_⟩
      rw [FM.prodI_succ, FM.prodI_succ, show FM.su s (j + 1 + i') = nsum (Vbfuan.after s (j + i')) from by unfold FM.su; rw [show j + 1 + i' - 1 = j + i' by omega]]
      rfl
    · rintro σ H' ⟨rfl, v, rfl⟩
      obtain ⟨q1, q2⟩ := hG.prod_su hi
      refine ⟨_, rfl, _, rfl, _, _, rfl, q1, q2, fun t nt => ?_⟩
      exact k _ t (same_new nt) upd_same
/-! #### weighted_factors, linked_benchmark -/
theorem mul_zip : ∀ ws qs : List Nat, (List.zipWith (· * ·) (toZ ws) (toZ qs)).sum = (nsum ((ws.zip qs).map fun x => x.1 * x.2) : Int)
  | [], _ => rfl
  | _ :: _, [] => rfl
  | a :: ws, b :: qs => by
    show ((a : Int) * (b : Int) :: List.zipWith (· * ·) (toZ ws) (toZ qs)).sum = ((a * b + nsum ((ws.zip qs).map fun x => x.1 * x.2) : Nat) : Int)
    rw [List.sum_cons, mul_zip ws qs]
    omega
theorem nsum_zip {A B : Nat} : ∀ {ws qs : List Nat}, (∀ x ∈ ws, x ≤ A) → (∀ x ∈ qs, x ≤ B) → nsum ((ws.zip qs).map fun x => x.1 * x.2) ≤ ws.length * (A * B)
  | [], _, _, _ => Nat.zero_le _
  | _ :: _, [], _, _ => Nat.zero_le _
  | a :: ws, b :: qs, h1, h2 => by
    have q1 := Nat.mul_le_mul (h1 a (List.Mem.head _)) (h2 b (List.Mem.head _))
    have q2 := nsum_zip (ws := ws) (qs := qs) (fun x hx => h1 x (List.Mem.tail _ hx)) fun x hx => h2 x (List.Mem.tail _ hx)
    show a * b + nsum ((ws.zip qs).map fun x => x.1 * x.2) ≤ (ws.length + 1) * (A * B)
    rw [Nat.add_mul]
    omega
theorem Good.bo {s : State} (g : Good s) {m : Nat} (h1 : 1 ≤ m) (h2 : m ≤ count s) : 0 ≤ FM.bo s m ∧ FM.bo s m ≤ 60000000000000 := by
  have q := nsum_zip (A := 1000000) (B := 10000000) (ws := s.weights) (qs := (Vbfuan.periodAt s m).bench) g.wle (g.qle m h1 h2)
  rw [g.wlen] at q
  have := g.parts6
  have := Nat.mul_le_mul_right (1000000 * 10000000) g.parts6
  unfold FM.bo
  omega
abbrev sWF : Stmt := top 19
theorem scWF : FnScope ["fund", "k", "weight", "factor"] ["fund", "k"] (defScope sWF) := ⟨rfl, rfl, rfl, by decide +kernel, rfl, by decide +kernel, by decide +kernel⟩
def spWF (CE CF : Addr) : Sp := fun vs H Q _ => ∃ (p ea : Addr) (s : State) (m : Nat), vs = [.ref p, .int m] ∧ FundS CE CF H p ea s ∧ Good s ∧ 1 ≤ m ∧ m ≤ count s ∧ Gives H (.int (FM.bo s m)) Q
theorem ok_WF {n : Nat} {f : Addr} {fd : FuncData} (F : Fun K "weighted_factors" "weighted_factors" sWF f fd) (T : Txt K mg CE CF CR) : FnOk P w K mg base CX0 (n + 1) f fd ["fund", "k"] (spWF CE CF) := by
  refine F.ok scWF (fun vs H Q E h => ?_) (fun cdv A outer s H vs Q E hr h => ?_)
  · obtain ⟨p, ea, s, m, rfl, _⟩ := h
    rfl
  · obtain ⟨p, ea, s, m, rfl, hF, hG, hm1, hm2, k⟩ := h
    refine ⟨_, (pss_one (ps_ret (pe_callB (cr_sum rfl) (by rfl) T.nsum boot_sum (pa_cons (pe_lc (own := [("weight", 2), ("factor", 3)]) (g := gTup K 2 (gCons (gName 2) (gCons (gName 3) gNil))) rfl scWF.nd (pi_zip (by rfl) T.nzip (pa_cons (pe_fld (pv 0) rfl) (pa_cons (pe_fld (pe_ix ix_list (pe_fld (pv 0) rfl) (pv 1) (fun _ _ => rfl)) rfl) pa_nil))) (blkOk_by (N := ["fund", "k", "weight", "factor"]) (sc := defScope sWF) (by decide +kernel)) (fun _ _ _ _ _ => (pg_tup (n := 2) rfl (pgs_cons (pg_name (i := 2) scWF.nd rfl (Or.inl rfl) (Or.inr rfl)) (pgs_cons (pg_name (i := 3) scWF.nd rfl (Or.inl rfl) (Or.inr rfl)) pgs_nil)))) (fun _ _ _ _ _ => pts_nil) (fun _ _ _ _ _ => (pe_op op_mul (pv 2) (pv 3)))) pa_nil)))), ?_⟩
    obtain ⟨dx, wa, as, a, dxe, b, hh, ff, h1, h2, h3, h4, h5, h6, h7, h8⟩ := hF.see hm2
    have e8 : (endOf s m).factors = toZ (Vbfuan.periodAt s m).bench := if_neg (by omega)
    rw [e8] at h8
    refine ⟨_, rfl, p, CF, dx, _, _, rfl, h1, T.clF, T.aF_weights, fundF_weights _ _, _, rfl, p, CF, dx, _, _, rfl, h1, T.clF, T.aF_ends, fundF_ends _ _, _, rfl, ea, _, _, _, rfl, rfl, SqL.of h3, atI_nat h4, a, CE, dxe, _, _, rfl, h5, T.clE, T.aE_factors, endF_factors _ _ _ _, wa, ff, _, _, rfl, SqL.of h2, SqL.of h8, fun D hD => ?_⟩
    have hw6 : (toZ s.weights).length ≤ 6 := by rw [toZ_length, hG.wlen]; exact hG.parts6
    refine lc_zip (K := K) (xs := (toZ s.weights).map V.int) (ys := (toZ (Vbfuan.periodAt s m).bench).map V.int) ((List.zipWith (· * ·) (toZ s.weights) (toZ (Vbfuan.periodAt s m).bench)).map V.int) hD (SqL.of h2) (SqL.of h8) (by simp) (by rw [List.length_map, List.length_zipWith]; have := small (n := 6) (by decide); omega) ?_ ?_
    · intro i x y z H' T R E' hx hy hz s' hT hR
      obtain ⟨x, hx', rfl⟩ := get_map hx
      obtain ⟨y, hy', rfl⟩ := get_map hy
      obtain ⟨z, hz', rfl⟩ := get_map hz
      have e : z = x * y := by
        rw [List.getElem?_zipWith, hx', hy'] at hz'
        exact (Option.some.inj hz').symm
      subst e
      have hxw : ∃ c, c ∈ s.weights ∧ x = (c : Int) := by
        have := List.mem_of_getElem? hx'
        obtain ⟨c, h, e⟩ := List.mem_map.mp this
        exact ⟨c, h, e.symm⟩
      obtain ⟨c, hcw, rfl⟩ := hxw
      have := hG.wle c hcw
      refine ⟨T, _, rfl, SqT.of upd_same, rfl, _, _, rfl, _, _, rfl, rfl, rfl, ?_⟩
      refine yesT ?_
      exact ⟨_, rfl, _, rfl, _, _, rfl, rfl, .inl (by omega), hR _ (Same.refl _)⟩
    · intro H' s' hH
      refine ⟨D, _, rfl, SqL.of hH, ?_⟩
      rw [mul_zip]
      exact k H' s'
abbrev sLB : Stmt := top 20
theorem scLB : FnScope ["fund", "j", "k", "over", "under", "m"] ["fund", "j", "k"] (defScope sLB) := ⟨rfl, rfl, rfl, by decide +kernel, rfl, by decide +kernel, by decide +kernel⟩
def spLB (CE CF : Addr) : Sp := fun vs H Q _ => ∃ (p ea : Addr) (s : State) (j i : Nat), vs = [.ref p, .int j, .int (j + i : Nat)] ∧ FundS CE CF H p ea s ∧ Good s ∧ j + i ≤ count s ∧ GivesT H (FM.prodI (FM.bo s) j i) (FM.prodI (fun _ => (1000000000000 : Int)) j i) Q
theorem ok_LB {n : Nat} {f : Addr} {fd : FuncData} (F : Fun K "linked_benchmark" "linked_benchmark" sLB f fd) (T : Txt K mg CE CF CR) (c_least : Cal P w K mg base "least" n ["over", "under"] spLeast) (c_weighted_factors : Cal P w K mg base "weighted_factors" n ["fund", "k"] (spWF CE CF)) :
    FnOk P w K mg base CX0 (n + 1) f fd ["fund", "j", "k"] (spLB CE CF) := by
  refine F.ok scLB (fun vs H Q E h => ?_) (fun cdv A outer s H vs Q E hr h => ?_)
  · obtain ⟨p, ea, s, j, i, rfl, _⟩ := h
    rfl
  · obtain ⟨p, ea, s, j, i, rfl, hF, hG, hi, k⟩ := h
    refine ⟨_, (pss_cons (ps_set (i := 3) scLB.nd rfl (Or.inl rfl) pe_int)
        (pss_cons (ps_set (i := 4) scLB.nd rfl (Or.inl rfl) pe_int)
        (pss_cons (ps_for PassesOwn.never rfl (pi_range2 (by rfl) T.nrange (pa_cons (pe_op op_add (pv 1) pe_int) (pa_cons (pe_op op_add (pv 2) pe_int) pa_nil))) (pg_name (i := 5) scLB.nd rfl (Or.inl rfl)) (pss_cons (ps_set (i := 3) scLB.nd rfl (Or.inl rfl) (pe_op op_mul (pv 3) (pe_cal c_weighted_factors hr rfl (pa_cons (pv 0) (pa_cons (pv 5) pa_nil)))))
        (pss_one (ps_set (i := 4) scLB.nd rfl (Or.inl rfl) (pe_op op_mul (pe_op op_mul (pv 4) (pe_const T.c_MILLION rfl)) (pe_const T.c_MILLION rfl))))))
        (pss_one (ps_ret (pe_cal c_least hr rfl (pa_cons (pv 3) (pa_cons (pv 4) pa_nil)))))))), ?_⟩
    have hc := hG.cnt
    refine ⟨_, rfl, _, _, rfl, rfl, _, rfl, _, _, rfl, rfl, _, _, rfl, (by omega), ?_⟩
    have en : (((j + i : Nat) : Int) + 1 - ((j : Int) + 1)).toNat = i := by omega
    rw [en]
    refine for_range (fun i' σ H' => Same H H' ∧ ∃ v : Option V, σ = [some (.ref p), some (.int j), some (.int (j + i : Nat)), some (.int (FM.prodI (FM.bo s) j i')), some (.int (FM.prodI (fun _ => (1000000000000 : Int)) j i')), v]) ⟨Same.refl H, none, by rw [FM.prodI_zero, FM.prodI_zero]; rfl⟩ ?_ ?_
    · rintro i' σ H' hi' ⟨s', v, rfl⟩
      have ei : (j : Int) + 1 + (i' : Int) = ((j + 1 + i' : Nat) : Int) := by omega
      rw [ei]
      refine ⟨_, rfl, _, rfl, _, rfl, p, ea, s, j + 1 + i', rfl, hF.same s', hG, by omega, by omega, fun H2 s2 => ?_⟩
      obtain ⟨b1, b2⟩ := hG.bo (m := j + 1 + i') (by omega) (by omega)
      refine ⟨_, _, rfl, rfl, .inr (by omega), ?_⟩
      refine ⟨_, rfl, _, _, rfl, rfl, .inr (by decide), _, _, rfl, rfl, .inr (by decide), ?_⟩
      refine ⟨s'.trans s2, some (.int ((j + 1 + i' : Nat) : Int)), ?_⟩
      rw [FM.prodI_succ, FM.prodI_succ, show (1000000000000 : Int) = 1000000 * 1000000 from rfl, ← Int.mul_assoc]
      rfl
    · rintro σ H' ⟨s', v, rfl⟩
      obtain ⟨q1, q2⟩ := prod_mil (j := j) (i := i) (by omega)
      refine ⟨_, rfl, _, rfl, _, _, rfl, q1, q2, fun t nt => ?_⟩
      exact k _ t (s'.trans (same_new nt)) upd_same
/-! #### brought -/
abbrev sBR : Stmt := top 18
theorem scBR : FnScope ["fund", "j", "k", "part", "place", "gained", "linked", "under", "m", "first", "last", "whole", "gain"] ["fund", "j", "k", "part"] (defScope sBR) := ⟨rfl, rfl, rfl, by decide +kernel, rfl, by decide +kernel, by decide +kernel⟩
def spBR (CE CF : Addr) : Sp := fun vs H Q _ => ∃ (p ea : Addr) (s : State) (j i q : Nat), vs = [.ref p, .int j, .int (j + i : Nat), .int (q + 1 : Nat)] ∧ FundS CE CF H p ea s ∧ Good s ∧ j + i ≤ count s ∧ q < s.first.length ∧ GivesT H (FM.gained s q j i) (FM.prodI (fun m => (FM.su s m : Int)) j i) Q
theorem toZ_at {l : List Nat} {q : Nat} (h : q < l.length) : ((toZ l).map V.int)[q]? = some (V.int (l.getD q 0 : Nat)) := by
  unfold toZ
  rw [List.map_map, List.getElem?_map, List.getD_eq_getElem?_getD, List.getElem?_eq_getElem h]
  rfl
theorem getD_le {l : List Nat} {q B : Nat} (h : ∀ x ∈ l, x ≤ B) : l.getD q 0 ≤ B := by
  by_cases hq : q < l.length
  · rw [List.getD_eq_getElem?_getD, List.getElem?_eq_getElem hq]
    exact h _ (List.getElem_mem hq)
  · rw [List.getD_eq_getElem?_getD, List.getElem?_eq_none (by omega)]
    exact Nat.zero_le _
theorem ok_BR {n : Nat} {f : Addr} {fd : FuncData} (F : Fun K "brought" "brought" sBR f fd) (T : Txt K mg CE CF CR) (c_least : Cal P w K mg base "least" n ["over", "under"] spLeast) : FnOk P w K mg base CX0 (n + 1) f fd ["fund", "j", "k", "part"] (spBR CE CF) := by
  refine F.ok scBR (fun vs H Q E h => ?_) (fun cdv A outer s H vs Q E hr h => ?_)
  · obtain ⟨p, ea, s, j, i, q, rfl, _⟩ := h
    rfl
  · obtain ⟨p, ea, s, j, i, q, rfl, hF, hG, hi, hq, k⟩ := h
    refine ⟨_, (pss_cons (ps_set (i := 4) scBR.nd rfl (Or.inl rfl) (pe_op op_sub (pv 3) pe_int))
        (pss_cons (ps_set (i := 5) scBR.nd rfl (Or.inl rfl) pe_int)
        (pss_cons (ps_set (i := 6) scBR.nd rfl (Or.inl rfl) pe_int)
        (pss_cons (ps_set (i := 7) scBR.nd rfl (Or.inl rfl) pe_int)
        (pss_cons (ps_for PassesOwn.never rfl (pi_range2 (by rfl) T.nrange (pa_cons (pe_op op_add (pv 1) pe_int) (pa_cons (pe_op op_add (pv 2) pe_int) pa_nil))) (pg_name (i := 8) scBR.nd rfl (Or.inl rfl)) (pss_cons (ps_set (i := 9) scBR.nd rfl (Or.inl rfl) (pe_ix ix_list (pe_fld (pv 0) rfl) (pe_op op_sub (pv 8) pe_int) (fun _ _ => rfl)))
        (pss_cons (ps_set (i := 10) scBR.nd rfl (Or.inl rfl) (pe_ix ix_list (pe_fld (pv 0) rfl) (pv 8) (fun _ _ => rfl)))
        (pss_cons (ps_set (i := 11) scBR.nd rfl (Or.inl rfl) (pe_callB (cr_sum rfl) (by rfl) T.nsum boot_sum (pa_cons (pe_fld (pv 9) rfl) pa_nil)))
        (pss_cons (ps_set (i := 12) scBR.nd rfl (Or.inl rfl) (pe_op op_sub (pe_ix ix_list (pe_fld (pv 10) rfl) (pv 4) (fun _ _ => rfl)) (pe_ix ix_list (pe_fld (pv 9) rfl) (pv 4) (fun _ _ => rfl))))
        (pss_cons (ps_set (i := 5) scBR.nd rfl (Or.inl rfl) (pe_op op_add (pe_op op_mul (pv 5) (pv 11)) (pe_op op_mul (pv 6) (pv 12))))
        (pss_cons (ps_set (i := 6) scBR.nd rfl (Or.inl rfl) (pe_op op_mul (pv 6) (pe_callB (cr_sum rfl) (by rfl) T.nsum boot_sum (pa_cons (pe_fld (pv 10) rfl) pa_nil))))
        (pss_one (ps_set (i := 7) scBR.nd rfl (Or.inl rfl) (pe_op op_mul (pv 7) (pv 11)))))))))))
        (pss_one (ps_ret (pe_cal c_least hr rfl (pa_cons (pv 5) (pa_cons (pv 7) pa_nil)))))))))), ?_⟩
    have hc := hG.cnt
    have eq : ((q + 1 : Nat) : Int) - 1 = (q : Int) := by omega
    refine ⟨_, rfl, _, _, rfl, rfl, ?_⟩
    refine ⟨_, rfl, _, _, rfl, rfl, _, rfl, _, _, rfl, rfl, _, _, rfl, (by omega), ?_⟩
    have en : (((j + i : Nat) : Int) + 1 - ((j : Int) + 1)).toNat = i := by omega
    rw [en]
    refine for_range (fun i' σ H' => H' = H ∧ ∃ v1 v2 v3 v4 v5 : Option V, σ = [some (.ref p), some (.int j), some (.int (j + i : Nat)), some (.int (q + 1 : Nat)), some (.int (((q + 1 : Nat) : Int) - 1)), some (.int (FM.gained s q j i')), some (.int (FM.prodI (FM.so s) j i')), some (.int (FM.prodI (fun m => (FM.su s m : Int)) j i')), v1, v2, v3, v4, v5])
      ⟨rfl, none, none, none, none, none, by rw [FM.prodI_zero, FM.prodI_zero]; rfl⟩ ?_ ?_
    · rintro i' σ H' hi' ⟨rfl, v1, v2, v3, v4, v5, rfl⟩
      obtain ⟨dx, wa, as, a, dxe, b, hh, ff, h1, h2, h3, h4, h5, h6, h7, h8⟩ := hF.see (m := j + 1 + i') (by omega)
      obtain ⟨dx', wa', as', a', dxe', b', hh', ff', g1, g2, g3, g4, g5, g6, g7, g8⟩ := hF.see (m := j + i') (by omega)
      have lb : q < (Vbfuan.before s (j + 1 + i')).length := by rw [hG.blen _ (by omega)]; exact hq
      have la : q < (Vbfuan.after s (j + i')).length := by rw [hG.alen _ (by omega)]; exact hq
      refine ⟨_, rfl, p, CF, dx', _, _, rfl, g1, T.clF, T.aF_ends, fundF_ends _ _, _, rfl, _, _, rfl, rfl, ea, _, _, _, rfl, rfl, SqL.of g3, at_of (j := j + i') (by omega) g4, ?_⟩
      refine ⟨_, rfl, p, CF, dx, _, _, rfl, h1, T.clF, T.aF_ends, fundF_ends _ _, _, rfl, ea, _, _, _, rfl, rfl, SqL.of h3, at_of (j := j + 1 + i') (by omega) h4, ?_⟩
      refine ⟨_, rfl, a', CE, dxe', _, _, rfl, g5, T.clE, T.aE_behind, endF_behind _ _ _ _, hh', _, rfl, SqL.of g7, ?_⟩
      rw [toZ_sum]
      refine ⟨_, rfl, a, CE, dxe, _, _, rfl, h5, T.clE, T.aE_before, endF_before _ _ _ _, _, rfl, b, _, _, _, rfl, rfl, SqL.of h6, at_of eq (toZ_at lb), _, rfl, a', CE, dxe', _, _, rfl, g5, T.clE, T.aE_behind, endF_behind _ _ _ _, _, rfl, hh', _, _, _, rfl, rfl, SqL.of g7, at_of eq (toZ_at la), _, _, rfl, rfl, ?_⟩
      have a1 := hG.asum (m := j + i') (by omega)
      have b1 := hG.bsum (m := j + 1 + i') (by omega)
      have x1 := getD_le (q := q) (hG.ble (j + 1 + i') (by omega))
      have x2 := getD_le (q := q) (hG.ale (j + i') (by omega))
      refine ⟨_, rfl, _, rfl, _, _, rfl, rfl, .inr (by omega), _, rfl, _, rfl, _, _, rfl, rfl, .inr (by omega), _, _, rfl, rfl, ?_⟩
      refine ⟨_, rfl, _, rfl, a, CE, dxe, _, _, rfl, h5, T.clE, T.aE_before, endF_before _ _ _ _, b, _, rfl, SqL.of h6, _, _, rfl, rfl, .inr (by rw [toZ_sum]; omega), ?_⟩
      rw [toZ_sum]
      refine ⟨_, rfl, _, rfl, _, _, rfl, rfl, .inr (by omega), ?_⟩
      refine ⟨rfl, some (.int ((j : Int) + 1 + (i' : Int))), some (.ref a'), some (.ref a), some (.int (nsum (Vbfuan.after s (j + i')) : Nat)), some (.int (((Vbfuan.before s (j + 1 + i')).getD q 0 : Nat) - ((Vbfuan.after s (j + i')).getD q 0 : Nat))), ?_⟩
      have es : FM.su s (j + 1 + i') = nsum (Vbfuan.after s (j + i')) := by unfold FM.su; rw [show j + 1 + i' - 1 = j + i' by omega]
      have eg : FM.sg s q (j + 1 + i') = ((Vbfuan.before s (j + 1 + i')).getD q 0 : Nat) - ((Vbfuan.after s (j + i')).getD q 0 : Nat) := by unfold FM.sg; rw [show j + 1 + i' - 1 = j + i' by omega]
      rw [FM.prodI_succ, FM.prodI_succ, show FM.gained s q j (i' + 1) = FM.gained s q j i' * (FM.su s (j + 1 + i') : Int) + FM.prodI (FM.so s) j i' * FM.sg s q (j + 1 + i') from rfl]
      rw [es, eg]
      rfl
    · rintro σ H' ⟨rfl, v1, v2, v3, v4, v5, rfl⟩
      obtain ⟨q1, q2⟩ := hG.prod_su hi
      refine ⟨_, rfl, _, rfl, _, _, rfl, q1, q2, fun t nt => ?_⟩
      exact k _ t (same_new nt) upd_same
end
end FB
end
section
set_option maxRecDepth 100000
set_option maxHeartbeats 4000000
namespace FB
open PySem PySem.Spec PyProof.Rows L2
open Vbfuan (State count nsum row isum inside onEnds isEnd told)
/-! ### ends named, as the specification has it -/
theorem inside_iff {n lo hi : Int} : inside n lo hi = true ↔ lo ≤ n ∧ n ≤ hi := by
  unfold Vbfuan.inside
  rw [Bool.and_eq_true, decide_eq_true_iff, decide_eq_true_iff]
theorem inside_not {n lo hi : Int} : inside n lo hi = false ↔ ¬ (lo ≤ n ∧ n ≤ hi) := by
  rw [← inside_iff]
  cases inside n lo hi <;> simp
theorem row2 {j k lo hi : Int} : row [j, k] lo hi = false ↔ inside j lo hi = false ∨ inside k lo hi = false := by
  show (inside j lo hi && (inside k lo hi && true)) = false ↔ _
  cases inside j lo hi <;> cases inside k lo hi <;> simp
theorem any2 {n : Nat} {j k : Int} : ([j, k] : List Int).any (fun x => decide (((n + 1 : Nat) : Int) ≤ x)) = true ↔ (n : Int) < j ∨ (n : Int) < k := by
  show (decide (((n + 1 : Nat) : Int) ≤ j) || (decide (((n + 1 : Nat) : Int) ≤ k) || false)) = true ↔ _
  rw [Bool.or_false, Bool.or_eq_true, decide_eq_true_iff, decide_eq_true_iff]
  omega
theorem onEnds_bad {s : State} {j k : Int} (h : rSpan (count s + 1) j k ≠ 0) (f : Nat → Nat → State × Vbfuan.Ans) : onEnds s j k f = (s, [rSpan (count s + 1) j k]) := by
  unfold Vbfuan.onEnds rSpan rEnds Vbfuan.no at *
  by_cases h1 : inside j 0 60 = false ∨ inside k 0 60 = false
  · have h1' := row2.mpr h1
    rw [if_pos h1]
    simp only [h1', if_true]
    rfl
  · have h1' : ¬ row [j, k] 0 60 = false := fun z => h1 (row2.mp z)
    rw [if_neg h1]
    simp only [if_neg h1'] at h ⊢
    have i1 : 0 ≤ j := Classical.byContradiction fun z => h1 (.inl (inside_not.mpr fun q => z q.1))
    have i2 : 0 ≤ k := Classical.byContradiction fun z => h1 (.inr (inside_not.mpr fun q => z q.1))
    have e2 : (isEnd s j = false ∨ isEnd s k = false) ↔ ([j, k] : List Int).any (fun x => decide (((count s + 1 : Nat) : Int) ≤ x)) = true := by
      rw [any2]
      unfold Vbfuan.isEnd
      rw [inside_not, inside_not]
      omega
    by_cases h2 : isEnd s j = false ∨ isEnd s k = false
    · rw [if_pos h2]
      simp only [e2.mp h2, if_true]
      rfl
    · have h2' : ¬ ([j, k] : List Int).any (fun x => decide (((count s + 1 : Nat) : Int) ≤ x)) = true := fun z => h2 (e2.mpr z)
      rw [if_neg h2]
      simp only [if_neg h2', true_and] at h ⊢
      by_cases h3 : k < j
      · rw [if_pos h3, if_pos h3]
        rfl
      · rw [if_neg h3] at h
        exact absurd rfl h
theorem onEnds_good {s : State} {j k : Int} (h : rSpan (count s + 1) j k = 0) : ∃ a i : Nat, j = (a : Int) ∧ k = ((a + i : Nat) : Int) ∧ a + i ≤ count s ∧ ∀ f : Nat → Nat → State × Vbfuan.Ans, onEnds s j k f = f a (a + i) := by
  unfold rSpan rEnds at h
  by_cases h1 : inside j 0 60 = false ∨ inside k 0 60 = false
  · have h1' := row2.mpr h1
    simp only [h1', if_true] at h
    rw [if_neg (by omega)] at h
    exact absurd h (by decide)
  · have h1' : ¬ row [j, k] 0 60 = false := fun z => h1 (row2.mp z)
    simp only [if_neg h1'] at h
    have i1 : 0 ≤ j := Classical.byContradiction fun z => h1 (.inl (inside_not.mpr fun q => z q.1))
    have i2 : 0 ≤ k := Classical.byContradiction fun z => h1 (.inr (inside_not.mpr fun q => z q.1))
    by_cases h2' : ([j, k] : List Int).any (fun x => decide (((count s + 1 : Nat) : Int) ≤ x)) = true
    · simp only [h2', if_true] at h
      rw [if_neg (by omega)] at h
      exact absurd h (by decide)
    · simp only [if_neg h2', true_and] at h
      have h2 : ¬ ((count s : Int) < j ∨ (count s : Int) < k) := fun z => h2' (any2.mpr z)
      by_cases h3 : k < j
      · rw [if_pos h3] at h
        exact absurd h (by decide)
      · refine ⟨j.toNat, (k - j).toNat, by omega, by omega, by omega, fun f => ?_⟩
        have e : j.toNat + (k - j).toNat = k.toNat := by omega
        rw [e]
        unfold Vbfuan.onEnds
        have h4 : ¬ (isEnd s j = false ∨ isEnd s k = false) := by
          unfold Vbfuan.isEnd
          rw [inside_not, inside_not]
          omega
        rw [if_neg h1, if_neg h4, if_neg h3]
theorem span_one {n : Nat} {k : Int} : rSpan n k k = rEnds n [k] := by
  unfold rSpan
  rw [if_neg (by omega)]
  unfold rEnds
  have e1 : row [k, k] 0 60 = row [k] 0 60 := by
    show (inside k 0 60 && (inside k 0 60 && true)) = (inside k 0 60 && true)
    cases inside k 0 60 <;> rfl
  have e2 : ([k, k] : List Int).any (fun x => decide ((n : Int) ≤ x)) = ([k] : List Int).any (fun x => decide ((n : Int) ≤ x)) := by
    show (decide ((n : Int) ≤ k) || (decide ((n : Int) ≤ k) || false)) = (decide ((n : Int) ≤ k) || false)
    cases decide ((n : Int) ≤ k) <;> rfl
  rw [e1, e2]
section
variable {P : Program} {w : World} {K : PySem.W.Frag} {mg : Str → Option Value} {base : Heap} {CE CF CR : Addr}
/-- a call that only tells: the specification's answer -/
def Tells (CE CF : Addr) (H : Hp) (p : Addr) (c : Vbfuan.Call) (Q : VK) : Prop := ∃ (ea : Addr) (s : State), FundS CE CF H p ea s ∧ Good s ∧ GivesL H (Vbfuan.step s c).2 Q
/-! #### tell_value -/
abbrev sTV : Stmt := top 71
theorem scTV : FnScope ["fund", "k", "refusal", "end"] ["fund", "k"] (defScope sTV) := ⟨rfl, rfl, rfl, by decide +kernel, rfl, by decide +kernel, by decide +kernel⟩
def spTV (CE CF : Addr) : Sp := fun vs H Q _ => ∃ (p : Addr) (k : Int), vs = [.ref p, .int k] ∧ Tells CE CF H p (.value k) Q
theorem ok_TV {n : Nat} {f : Addr} {fd : FuncData} (F : Fun K "tell_value" "tell_value" sTV f fd) (T : Txt K mg CE CF CR) (c_ends_refusal : Cal P w K mg base "ends_refusal" n ["fund", "named"] (spER CE CF)) : FnOk P w K mg base CX0 (n + 1) f fd ["fund", "k"] (spTV CE CF) := by
  refine F.ok scTV (fun vs H Q E h => ?_) (fun cdv A outer s H vs Q E hr h => ?_)
  · obtain ⟨p, k, rfl, _⟩ := h
    rfl
  · obtain ⟨p, k, rfl, ea, s, hF, hG, kk⟩ := h
    refine ⟨_, (pss_cons (ps_set (i := 2) scTV.nd rfl (Or.inl rfl) (pe_cal c_ends_refusal hr rfl (pa_cons (pv 0) (pa_cons (pe_lst (pa_cons (pv 1) pa_nil)) pa_nil))))
        (pss_cons (ps_if (pt_cmpR op_ne (pv 2) (pe_const T.c_NOTHING_REFUSED rfl) (nomark _)) (pss_one (ps_ret (pe_lst (pa_cons (pv 2) pa_nil)))) pss_nil)
        (pss_cons (ps_set (i := 3) scTV.nd rfl (Or.inl rfl) (pe_ix ix_list (pe_fld (pv 0) rfl) (pv 1) (fun _ _ => rfl)))
        (pss_one (ps_ret (pe_lst (pa_cons (pe_fld (pv 3) rfl) (pa_cons (pe_callB (cr_sum rfl) (by rfl) T.nsum boot_sum (pa_cons (pe_fld (pv 3) rfl) pa_nil)) (pa_cons (pe_callB (cr_sum rfl) (by rfl) T.nsum boot_sum (pa_cons (pe_fld (pv 3) rfl) pa_nil)) pa_nil))))))))), ?_⟩
    refine ⟨_, rfl, _, rfl, (by show 1 ≤ sizeLine; decide), fun l nl => ?_⟩
    have s0 : Same H (upd H l (.lst [V.int k])) := same_new nl
    refine ⟨p, ea, l, _, _, [k], rfl, hF.same s0, upd_same, (by show 0 < 1; decide), (by show 1 ≤ 100000; decide), fun H1 s1 => ?_⟩
    rw [endsOf_length, ← span_one]
    have s01 := s0.trans s1
    refine ⟨_, rfl, rfl, _, rfl, iteNe (fun q => ?_) (fun q => ?_)⟩
    · refine ⟨_, rfl, (by show 1 ≤ sizeLine; decide), fun l nl => ?_⟩
      refine kk _ l (s01.trans (same_new nl)) (Same.free s01 nl) ?_
      show LI _ _ (onEnds s k k _).2
      rw [onEnds_bad q]
      exact upd_same
    · obtain ⟨a, i, ea', ek, hi, hf⟩ := onEnds_good q
      have ei : i = 0 := by omega
      subst ei
      have hF1 := hF.same s01
      obtain ⟨dx, wa, as, d, dxe, b, hh, ff, h1, h2, h3, h4, h5, h6, h7, h8⟩ := hF1.see (m := a) (by omega)
      refine ⟨_, rfl, p, CF, dx, _, _, rfl, h1, T.clF, T.aF_ends, fundF_ends _ _, _, rfl, ea, _, _, _, rfl, rfl, SqL.of h3, at_of ea' h4, ?_⟩
      refine ⟨_, rfl, d, CE, dxe, _, _, rfl, h5, T.clE, T.aE_time, endF_time _ _ _ _, _, rfl, d, CE, dxe, _, _, rfl, h5, T.clE, T.aE_before, endF_before _ _ _ _, b, _, rfl, SqL.of h6, _, rfl, d, CE, dxe, _, _, rfl, h5, T.clE, T.aE_behind, endF_behind _ _ _ _, hh, _, rfl, SqL.of h7, (by show 3 ≤ sizeLine; decide), fun l nl => ?_⟩
      refine kk _ l (s01.trans (same_new nl)) (Same.free s01 nl) ?_
      show LI _ _ (onEnds s k k _).2
      rw [hf, toZ_sum, toZ_sum]
      exact upd_same
/-! #### tell_linked, tell_scaled -/
abbrev sTL : Stmt := top 72
theorem scTL : FnScope ["fund", "j", "k", "refusal"] ["fund", "j", "k"] (defScope sTL) := ⟨rfl, rfl, rfl, by decide +kernel, rfl, by decide +kernel, by decide +kernel⟩
def spTL (CE CF : Addr) : Sp := fun vs H Q _ => ∃ (p : Addr) (j k : Int), vs = [.ref p, .int j, .int k] ∧ Tells CE CF H p (.linked j k) Q
theorem ok_TL {n : Nat} {f : Addr} {fd : FuncData} (F : Fun K "tell_linked" "tell_linked" sTL f fd) (T : Txt K mg CE CF CR) (c_span_refusal : Cal P w K mg base "span_refusal" n ["fund", "j", "k"] (spSP CE CF)) (c_linked_factor : Cal P w K mg base "linked_factor" n ["fund", "j", "k"] (spLF CE CF)) :
    FnOk P w K mg base CX0 (n + 1) f fd ["fund", "j", "k"] (spTL CE CF) := by
  refine F.ok scTL (fun vs H Q E h => ?_) (fun cdv A outer s H vs Q E hr h => ?_)
  · obtain ⟨p, j, k, rfl, _⟩ := h
    rfl
  · obtain ⟨p, j, k, rfl, ea, s, hF, hG, kk⟩ := h
    refine ⟨_, (pss_cons (ps_set (i := 3) scTL.nd rfl (Or.inl rfl) (pe_cal c_span_refusal hr rfl (pa_cons (pv 0) (pa_cons (pv 1) (pa_cons (pv 2) pa_nil)))))
        (pss_cons (ps_if (pt_cmpR op_ne (pv 3) (pe_const T.c_NOTHING_REFUSED rfl) (nomark _)) (pss_one (ps_ret (pe_lst (pa_cons (pv 3) pa_nil)))) pss_nil)
        (pss_one (ps_ret (pe_callTy call_list_of (by rfl) T.nlist boot_list (pa_cons (pe_cal c_linked_factor hr rfl (pa_cons (pv 0) (pa_cons (pv 1) (pa_cons (pv 2) pa_nil)))) pa_nil)))))), ?_⟩
    refine ⟨_, rfl, _, rfl, _, rfl, p, ea, _, _, j, k, rfl, hF, fun H1 s1 => ?_⟩
    rw [endsOf_length]
    refine ⟨_, rfl, rfl, _, rfl, iteNe (fun q => ?_) (fun q => ?_)⟩
    · refine ⟨_, rfl, (by show 1 ≤ sizeLine; decide), fun l nl => ?_⟩
      refine kk _ l (s1.trans (same_new nl)) (Same.free s1 nl) ?_
      show LI _ _ (onEnds s j k _).2
      rw [onEnds_bad q]
      exact upd_same
    · obtain ⟨a, i, rfl, rfl, hi, hf⟩ := onEnds_good q
      refine ⟨_, rfl, _, rfl, _, rfl, p, ea, s, a, i, rfl, hF.same s1, hG, hi, fun H2 t s2 ht => ?_⟩
      refine ⟨t, _, rfl, .inr (SqT.of ht), fun l nl => ?_⟩
      refine kk _ l ((s1.trans s2).trans (same_new nl)) (Same.free (s1.trans s2) nl) ?_
      show LI _ _ (onEnds s _ _ _).2
      rw [hf]
      show LI _ _ (told (Vbfuan.linked s a (a + i)))
      rw [FM.linked_told hG.pos hi]
      exact upd_same
abbrev sTS : Stmt := top 73
theorem scTS : FnScope ["fund", "j", "k", "refusal", "factor"] ["fund", "j", "k"] (defScope sTS) := ⟨rfl, rfl, rfl, by decide +kernel, rfl, by decide +kernel, by decide +kernel⟩
def spTS (CE CF : Addr) : Sp := fun vs H Q _ => ∃ (p : Addr) (j k : Int), vs = [.ref p, .int j, .int k] ∧ Tells CE CF H p (.scaled j k) Q
theorem told_inj {f : Vbfuan.Frac} {x y : Int} (h : told f = [x, y]) : f.num = x ∧ (f.den : Int) = y := by
  injection h with h1 h2
  injection h2 with h2 _
  exact ⟨h1, h2⟩
theorem lowest_den {a b : Int} (hb : 0 < b) (hl : Lim b) : 0 < b / ((Nat.gcd a.natAbs b.natAbs : Nat) : Int) ∧ Lim (b / ((Nat.gcd a.natAbs b.natAbs : Nat) : Int)) := by
  obtain ⟨g1, g2⟩ := gcd_dvd (a := a) hb
  have hd : ((Nat.gcd a.natAbs b.natAbs : Nat) : Int) ∣ b := Int.ofNat_dvd_left.mpr (Nat.gcd_dvd_right _ _)
  have h1 : 0 < b / ((Nat.gcd a.natAbs b.natAbs : Nat) : Int) := Int.ediv_pos_of_pos_of_dvd hb (by omega) hd
  refine ⟨h1, hl.le ?_⟩
  have h2 : b / ((Nat.gcd a.natAbs b.natAbs : Nat) : Int) ≤ b := Int.ediv_le_self _ (by omega)
  omega
theorem ok_TS {n : Nat} {f : Addr} {fd : FuncData} (F : Fun K "tell_scaled" "tell_scaled" sTS f fd) (T : Txt K mg CE CF CR) (c_span_refusal : Cal P w K mg base "span_refusal" n ["fund", "j", "k"] (spSP CE CF)) (c_linked_factor : Cal P w K mg base "linked_factor" n ["fund", "j", "k"] (spLF CE CF)) :
    FnOk P w K mg base CX0 (n + 1) f fd ["fund", "j", "k"] (spTS CE CF) := by
  refine F.ok scTS (fun vs H Q E h => ?_) (fun cdv A outer s H vs Q E hr h => ?_)
  · obtain ⟨p, j, k, rfl, _⟩ := h
    rfl
  · obtain ⟨p, j, k, rfl, ea, s, hF, hG, kk⟩ := h
    refine ⟨_, (pss_cons (ps_set (i := 3) scTS.nd rfl (Or.inl rfl) (pe_cal c_span_refusal hr rfl (pa_cons (pv 0) (pa_cons (pv 1) (pa_cons (pv 2) pa_nil)))))
        (pss_cons (ps_if (pt_cmpR op_ne (pv 3) (pe_const T.c_NOTHING_REFUSED rfl) (nomark _)) (pss_one (ps_ret (pe_lst (pa_cons (pv 3) pa_nil)))) pss_nil)
        (pss_cons (ps_set (i := 4) scTS.nd rfl (Or.inl rfl) (pe_cal c_linked_factor hr rfl (pa_cons (pv 0) (pa_cons (pv 1) (pa_cons (pv 2) pa_nil)))))
        (pss_one (ps_ret (pe_lst (pa_cons (pe_op op_fdivL (pe_op op_mul (pe_ix ix_tup (pv 4) pe_int (fun _ _ => rfl)) (pe_const T.c_SCALE rfl)) (pe_ix ix_tup (pv 4) pe_int (fun _ _ => rfl))) pa_nil))))))), ?_⟩
    refine ⟨_, rfl, _, rfl, _, rfl, p, ea, _, _, j, k, rfl, hF, fun H1 s1 => ?_⟩
    rw [endsOf_length]
    refine ⟨_, rfl, rfl, _, rfl, iteNe (fun q => ?_) (fun q => ?_)⟩
    · refine ⟨_, rfl, (by show 1 ≤ sizeLine; decide), fun l nl => ?_⟩
      refine kk _ l (s1.trans (same_new nl)) (Same.free s1 nl) ?_
      show LI _ _ (onEnds s j k _).2
      rw [onEnds_bad q]
      exact upd_same
    · obtain ⟨a, i, rfl, rfl, hi, hf⟩ := onEnds_good q
      refine ⟨_, rfl, _, rfl, _, rfl, p, ea, s, a, i, rfl, hF.same s1, hG, hi, fun H2 t s2 ht => ?_⟩
      obtain ⟨q1, q2⟩ := hG.prod_su hi
      obtain ⟨q3, q4⟩ := lowest_den (a := FM.prodI (FM.so s) a i) q1 q2
      obtain ⟨e1, e2⟩ := told_inj (FM.linked_told hG.pos hi)
      refine ⟨_, rfl, t, _, _, _, rfl, rfl, SqT.of ht, atI_nat (j := 0) rfl, _, _, rfl, rfl, .inr (by decide), _, rfl, t, _, _, _, rfl, rfl, SqT.of ht, atI_nat (j := 1) rfl, _, _, rfl, rfl, ⟨q3, q4⟩, (by show 1 ≤ sizeLine; decide), fun l nl => ?_⟩
      refine kk _ l ((s1.trans s2).trans (same_new nl)) (Same.free (s1.trans s2) nl) ?_
      show LI _ _ (onEnds s _ _ _).2
      rw [hf]
      show LI _ _ [(Vbfuan.linked s a (a + i)).num * 1000000000 / ((Vbfuan.linked s a (a + i)).den : Int)]
      rw [e1, e2]
      exact upd_same
/-! #### tell_part -/
abbrev sTP : Stmt := top 74
theorem scTP : FnScope ["fund", "j", "k", "part", "refusal"] ["fund", "j", "k", "part"] (defScope sTP) := ⟨rfl, rfl, rfl, by decide +kernel, rfl, by decide +kernel, by decide +kernel⟩
def spTP (CE CF : Addr) : Sp := fun vs H Q _ => ∃ (p : Addr) (j k i : Int), vs = [.ref p, .int j, .int k, .int i] ∧ Tells CE CF H p (.part j k i) Q
theorem ok_TP {n : Nat} {f : Addr} {fd : FuncData} (F : Fun K "tell_part" "tell_part" sTP f fd) (T : Txt K mg CE CF CR) (c_part_span_refusal : Cal P w K mg base "part_span_refusal" n ["fund", "j", "k", "part"] (spPS CE CF)) (c_brought : Cal P w K mg base "brought" n ["fund", "j", "k", "part"] (spBR CE CF)) :
    FnOk P w K mg base CX0 (n + 1) f fd ["fund", "j", "k", "part"] (spTP CE CF) := by
  refine F.ok scTP (fun vs H Q E h => ?_) (fun cdv A outer s H vs Q E hr h => ?_)
  · obtain ⟨p, j, k, i, rfl, _⟩ := h
    rfl
  · obtain ⟨p, j, k, pi, rfl, ea, s, hF, hG, kk⟩ := h
    refine ⟨_, (pss_cons (ps_set (i := 4) scTP.nd rfl (Or.inl rfl) (pe_cal c_part_span_refusal hr rfl (pa_cons (pv 0) (pa_cons (pv 1) (pa_cons (pv 2) (pa_cons (pv 3) pa_nil))))))
        (pss_cons (ps_if (pt_cmpR op_ne (pv 4) (pe_const T.c_NOTHING_REFUSED rfl) (nomark _)) (pss_one (ps_ret (pe_lst (pa_cons (pv 4) pa_nil)))) pss_nil)
        (pss_one (ps_ret (pe_op op_cat (pe_lst (pa_cons pe_int pa_nil)) (pe_callTy call_list_of (by rfl) T.nlist boot_list (pa_cons (pe_cal c_brought hr rfl (pa_cons (pv 0) (pa_cons (pv 1) (pa_cons (pv 2) (pa_cons (pv 3) pa_nil))))) pa_nil))))))), ?_⟩
    have e0 : (endOf s 0).before.length = Vbfuan.parts s := by
      show (toZ _).length = _
      rw [toZ_length]
      rfl
    refine ⟨_, rfl, _, rfl, _, rfl, _, rfl, p, ea, _, _, _, j, k, pi, rfl, hF, endsOf_at (Nat.zero_le _), fun H1 s1 => ?_⟩
    rw [endsOf_length, e0]
    refine ⟨_, rfl, rfl, _, rfl, iteNe (fun q => ?_) (fun q => ?_)⟩
    · refine ⟨_, rfl, (by show 1 ≤ sizeLine; decide), fun l nl => ?_⟩
      refine kk _ l (s1.trans (same_new nl)) (Same.free s1 nl) ?_
      show LI _ _ (if inside pi 1 (Vbfuan.parts s : Int) = false then Vbfuan.no s 1 else onEnds s j k _).2
      unfold rPart at q ⊢
      by_cases h1 : inside pi 1 (Vbfuan.parts s : Int) = false
      · rw [if_pos h1, if_pos h1]
        exact upd_same
      · rw [if_neg h1] at q
        rw [if_neg h1, if_neg h1, onEnds_bad q]
        exact upd_same
    · unfold rPart at q
      by_cases h1 : inside pi 1 (Vbfuan.parts s : Int) = false
      · rw [if_pos h1] at q
        exact absurd q (by decide)
      rw [if_neg h1] at q
      obtain ⟨a, i, rfl, rfl, hi, hf⟩ := onEnds_good q
      have hp : 1 ≤ pi ∧ pi ≤ (Vbfuan.parts s : Int) := Classical.byContradiction fun z => h1 (inside_not.mpr z)
      obtain ⟨r, er⟩ : ∃ r : Nat, pi = ((r + 1 : Nat) : Int) := ⟨(pi - 1).toNat, by omega⟩
      subst er
      have hr' : r < s.first.length := by
        have : Vbfuan.parts s = s.first.length := rfl
        omega
      refine ⟨(by show 1 ≤ sizeLine; decide), fun l0 nl0 => ?_⟩
      have s10 := s1.trans (same_new (o := .lst [V.int 0]) nl0)
      refine ⟨_, rfl, _, rfl, _, rfl, _, rfl, p, ea, s, a, i, r, rfl, hF.same s10, hG, hi, hr', fun H2 t s2 ht => ?_⟩
      refine ⟨t, _, rfl, .inr (SqT.of ht), fun l1 nl1 => ?_⟩
      have g0 := same_new (o := .lst ((FM.lowest (FM.gained s r a i) (FM.prodI (fun m => (FM.su s m : Int)) a i)).map V.int)) nl1 _ _ (s2 _ _ (upd_same (H := H1) (a := l0) (o := .lst [V.int 0])))
      refine ⟨l0, l1, _, _, rfl, rfl, g0, upd_same, (by show 1 + 2 ≤ sizeLine; decide), fun l nl => ?_⟩
      refine kk _ l (((s10.trans s2).trans (same_new nl1)).trans (same_new nl)) (Same.free ((s10.trans s2).trans (same_new nl1)) nl) ?_
      show LI _ _ (if inside _ 1 (Vbfuan.parts s : Int) = false then Vbfuan.no s 1 else onEnds s _ _ _).2
      rw [if_neg h1, hf]
      show LI _ _ (0 :: told (Vbfuan.contribution s a (a + i) (((r + 1 : Nat) : Int)).toNat))
      rw [Int.toNat_natCast, FM.contribution_told hG.pos hi]
      exact upd_same
/-! #### tell_bench -/
abbrev sTB : Stmt := top 75
theorem scTB : FnScope ["fund", "j", "k", "refusal"] ["fund", "j", "k"] (defScope sTB) := ⟨rfl, rfl, rfl, by decide +kernel, rfl, by decide +kernel, by decide +kernel⟩
def spTB (CE CF : Addr) : Sp := fun vs H Q _ => ∃ (p : Addr) (j k : Int), vs = [.ref p, .int j, .int k] ∧ Tells CE CF H p (.bench j k) Q
theorem ok_TB {n : Nat} {f : Addr} {fd : FuncData} (F : Fun K "tell_bench" "tell_bench" sTB f fd) (T : Txt K mg CE CF CR) (c_span_refusal : Cal P w K mg base "span_refusal" n ["fund", "j", "k"] (spSP CE CF)) (c_linked_benchmark : Cal P w K mg base "linked_benchmark" n ["fund", "j", "k"] (spLB CE CF)) :
    FnOk P w K mg base CX0 (n + 1) f fd ["fund", "j", "k"] (spTB CE CF) := by
  refine F.ok scTB (fun vs H Q E h => ?_) (fun cdv A outer s H vs Q E hr h => ?_)
  · obtain ⟨p, j, k, rfl, _⟩ := h
    rfl
  · obtain ⟨p, j, k, rfl, ea, s, hF, hG, kk⟩ := h
    refine ⟨_, (pss_cons (ps_set (i := 3) scTB.nd rfl (Or.inl rfl) (pe_cal c_span_refusal hr rfl (pa_cons (pv 0) (pa_cons (pv 1) (pa_cons (pv 2) pa_nil)))))
        (pss_cons (ps_if (pt_cmpR op_ne (pv 3) (pe_const T.c_NOTHING_REFUSED rfl) (nomark _)) (pss_one (ps_ret (pe_lst (pa_cons (pv 3) pa_nil)))) pss_nil)
        (pss_one (ps_ret (pe_callTy call_list_of (by rfl) T.nlist boot_list (pa_cons (pe_cal c_linked_benchmark hr rfl (pa_cons (pv 0) (pa_cons (pv 1) (pa_cons (pv 2) pa_nil)))) pa_nil)))))), ?_⟩
    refine ⟨_, rfl, _, rfl, _, rfl, p, ea, _, _, j, k, rfl, hF, fun H1 s1 => ?_⟩
    rw [endsOf_length]
    refine ⟨_, rfl, rfl, _, rfl, iteNe (fun q => ?_) (fun q => ?_)⟩
    · refine ⟨_, rfl, (by show 1 ≤ sizeLine; decide), fun l nl => ?_⟩
      refine kk _ l (s1.trans (same_new nl)) (Same.free s1 nl) ?_
      show LI _ _ (onEnds s j k _).2
      rw [onEnds_bad q]
      exact upd_same
    · obtain ⟨a, i, rfl, rfl, hi, hf⟩ := onEnds_good q
      refine ⟨_, rfl, _, rfl, _, rfl, p, ea, s, a, i, rfl, hF.same s1, hG, hi, fun H2 t s2 ht => ?_⟩
      refine ⟨t, _, rfl, .inr (SqT.of ht), fun l nl => ?_⟩
      refine kk _ l ((s1.trans s2).trans (same_new nl)) (Same.free (s1.trans s2) nl) ?_
      show LI _ _ (onEnds s _ _ _).2
      rw [hf]
      show LI _ _ (told (Vbfuan.benchLinked s a (a + i)))
      rw [FM.benchLinked_told]
      exact upd_same
end
end FB
end
section
set_option maxRecDepth 100000
set_option maxHeartbeats 4000000
namespace FB
open PySem PySem.Spec PyProof.Rows L2
open Vbfuan (State count nsum isum)
/-! ### what the layer lacks: products of great numbers, a list made longer by a tuple -/
section
variable {X : Cx}
theorem op_mulL : OpR X (binaryOp .Mult) (rI (fun i j => Lim i ∧ Lim j) fun i j => .int (i * j)) := opI fun _ _ _ _ _ _ _ hc q =>
  mul_int q (IntMulOk.of_le (m := 8000) (n := 8000) (intBits_le_iff.mpr hc.1) (intBits_le_iff.mpr hc.2) (by decide))
def rExtendT : V → List V → Hp → VK → Prop := fun x vs H Q => ∃ l b xs zs, x = .ref l ∧ vs = [.ref b] ∧ H l = some (.lst xs) ∧ H b = some (.tup zs) ∧ xs.length + zs.length ≤ sizeLine ∧ Q .non (upd H l (.lst (xs ++ zs)))
theorem list_extend_tup (l : Addr) (items : Array Value) (n : Nat) (b : Addr) (items2 : Array Value) (hs : items.size + items2.size ≤ sizeLine) :
    Meets (Builtin.«list.extend» ⟨[.ref l, .ref b], []⟩) (fun _ R s => s.heap.get? l = some { cls := .type "list", data := .seq items n } ∧ IsTup s.heap b items2 ∧ R (.ok (.ret Value.none)) { s with heap := s.heap.update l (Obj.mapSeq fun x => x ++ items2) }) := by
  intro prog w A R s h
  obtain ⟨hl, ⟨o, ho, hc, n2, hd⟩, hR⟩ := h
  have hlong : (!items.isEmpty && Builtin.List.listTooLong (items.size + items2.size)) = false := by rw [notLongL hs, Bool.and_false]
  show wpAny _ A.in1 (Builtin.List.listExtendWith (.ref l) (.ref b) .none) _ _ s
  unfold Builtin.List.listExtendWith
  refine wpAny_bind (wpAny_typeOf ⟨o, ho, hc⟩ ?_)
  have h1 : (Builtin.List.listSameRef (.ref l) (.ref b) || Value.type "tuple" == Value.type "list" || Value.type "tuple" == Value.type "tuple") = true := by simp
  simp only [h1, if_true]
  refine wpAny_bind ?_
  unfold Builtin.List.listItems
  refine wpAny_bind (wpAny_seqItems ho hd (wpAny_pure ?_))
  refine wpAny_bind ?_
  refine wpAny_bind (wpAny_seqItems hl rfl (wpAny_pure ?_))
  simp only [hlong]
  show wpAny _ A.in1 (updateSeq l (· ++ items2) >>= fun _ => ret .none) _ _ s
  refine wpAny_bind (wpAny_updateSeq hl rfl ?_ (by omega) (by rw [Array.size_append]; omega))
  exact wpAny_pure hR
theorem mt_extendT : MtM X "list.extend" rExtendT := by
  intro pins s σ H x vs v us Q I rx rv h
  obtain ⟨l, b, xs, zs, rfl, rfl, hH, hB, hz, q⟩ := h
  cases rx
  obtain ⟨u, rfl, ru⟩ := rv.one
  cases ru
  obtain ⟨z, its, n, r, hl, e⟩ := I.lstM hH
  obtain ⟨z2, its2, r2, e2⟩ := I.hok b _ hB
  have hl2 := r2.length
  have hsz : its.toArray.size + its2.toArray.size ≤ sizeLine := by rw [List.size_toArray, List.size_toArray]; omega
  have hlong : ¬ (!its.toArray.isEmpty && Builtin.List.listTooLong (its.toArray.size + its2.toArray.size)) = true := by
    rw [notLongL hsz, Bool.and_false]
    exact Bool.false_ne_true
  refine call_meets F.slot_list_extend ⟨_, e, rfl⟩ F.entry_list_extend (F.args_list_extend_2 _ _) (list_extend_tup l its.toArray n b its2.toArray hsz) ⟨e, e2, ?_⟩
  refine ⟨.non, _, I.lset (its' := its ++ its2) hH e (by simp) (r.append r2) ?_, rfl, q⟩
  rw [List.length_append]
  omega
end
/-! ### the whole fund at once -/
section
variable {P : Program} {w : World} {K : PySem.W.Frag} {mg : Str → Option Value} {base : Heap} {CE CF CR : Addr}
theorem FundAt.all {H : Hp} {p ea : Addr} {s : State} (x : FundS CE CF H p ea s) : ∃ (dx wa : Addr) (as : List Addr), H p = some (.ins CF dx (fundF wa ea)) ∧ LI H wa (toZ s.weights) ∧ H ea = some (.lst (as.map V.ref)) ∧ (as.map V.ref).length = count s + 1 ∧
    ∀ m, m ≤ count s → ∃ a dxe b hh ff : Addr, (as.map V.ref)[m]? = some (V.ref a) ∧ EndAt CE H a (endOf s m) ∧ H a = some (.ins CE dxe (endF (Vbfuan.timeOf s m : Nat) b hh ff)) ∧ LI H b (toZ (Vbfuan.before s m)) ∧ LI H hh (toZ (Vbfuan.after s m)) ∧ LI H ff (endOf s m).factors := by
  obtain ⟨dx, wa, h1, h2⟩ := x.fund
  obtain ⟨as, h3, h4, h5⟩ := x.lst
  refine ⟨dx, wa, as, h1, h2, h3, by rw [List.length_map, h4, endsOf_length], fun m hm => ?_⟩
  have hi : m < as.length := by rw [h4, endsOf_length]; omega
  have hE := h5 m as[m] _ (List.getElem?_eq_getElem hi) (endsOf_at hm)
  obtain ⟨dxe, b, hh, ff, g1, g2, g3, g4⟩ := id hE.ex
  exact ⟨as[m], dxe, b, hh, ff, by rw [List.getElem?_map, List.getElem?_eq_getElem hi]; rfl, hE, g1, g2, g3, g4⟩
/-! #### all_flows, power -/
abbrev sAF : Stmt := top 6
theorem scAF : FnScope ["end"] ["end"] (defScope sAF) := ⟨rfl, rfl, rfl, by decide +kernel, rfl, by decide +kernel, by decide +kernel⟩
def spAF (CE : Addr) : Sp := fun vs H Q _ => ∃ (a : Addr) (e : EndV) (v : Int), vs = [.ref a] ∧ EndAt CE H a e ∧ v = e.behind.sum - e.before.sum ∧ Q (.int v) H
theorem ok_AF {n : Nat} {f : Addr} {fd : FuncData} (F : Fun K "all_flows" "all_flows" sAF f fd) (T : Txt K mg CE CF CR) :
    FnOk P w K mg base CX0 (n + 1) f fd ["end"] (spAF CE) := by
  refine F.ok scAF (fun vs H Q E h => ?_) (fun cdv A outer s H vs Q E hr h => ?_)
  · obtain ⟨a, e, v, rfl, _⟩ := h
    rfl
  · obtain ⟨a, e, v, rfl, ⟨dx, b, hh, ff, h1, h2, h3, h4⟩, rfl, k⟩ := h
    refine ⟨_, (pss_one (ps_ret (pe_op op_sub (pe_callB (cr_sum rfl) (by rfl) T.nsum boot_sum (pa_cons (pe_fld (pv 0) rfl) pa_nil)) (pe_callB (cr_sum rfl) (by rfl) T.nsum boot_sum (pa_cons (pe_fld (pv 0) rfl) pa_nil))))), ?_⟩
    exact ⟨_, rfl, a, CE, dx, _, _, rfl, h1, T.clE, T.aE_behind, endF_behind _ _ _ _, hh, _, rfl, SqL.of h3, _, rfl, a, CE, dx, _, _, rfl, h1, T.clE, T.aE_before, endF_before _ _ _ _, b, _, rfl, SqL.of h2, _, _, rfl, rfl, k⟩
abbrev sPow : Stmt := top 9
theorem scPow : FnScope ["base", "exponent", "result", "done"] ["base", "exponent"] (defScope sPow) := ⟨rfl, rfl, rfl, by decide +kernel, rfl, by decide +kernel, by decide +kernel⟩
def spPow : Sp := fun vs H Q _ => ∃ (r : Nat) (e : Int), vs = [.int r, .int e] ∧ r ≤ 10000000 ∧ 0 ≤ e ∧ e ≤ 60 ∧ Q (.int ((r ^ e.toNat : Nat) : Int)) H
theorem ok_Pow {n : Nat} {f : Addr} {fd : FuncData} (F : Fun K "power" "power" sPow f fd) (T : Txt K mg CE CF CR) :
    FnOk P w K mg base CX0 (n + 1) f fd ["base", "exponent"] spPow := by
  refine F.ok scPow (fun vs H Q E h => ?_) (fun cdv A outer s H vs Q E hr h => ?_)
  · obtain ⟨r, e, rfl, _⟩ := h
    rfl
  · obtain ⟨r, e, rfl, hr', he, he', k⟩ := h
    refine ⟨_, (pss_cons (ps_set (i := 2) scPow.nd rfl (Or.inl rfl) pe_int)
        (pss_cons (ps_for PassesOwn.never rfl (pi_range1 (by rfl) T.nrange (pa_cons (pv 1) pa_nil)) (pg_name (i := 3) scPow.nd rfl (Or.inl rfl)) (pss_one (ps_set (i := 2) scPow.nd rfl (Or.inl rfl) (pe_op op_mul (pv 2) (pv 0)))))
        (pss_one (ps_ret (pv 2))))), ?_⟩
    refine ⟨_, rfl, _, rfl, (by omega), (by omega), ?_⟩
    refine for_range (fun i' σ H' => H' = H ∧ ∃ v : Option V, σ = [some (.int r), some (.int e), some (.int ((r ^ i' : Nat) : Int)), v]) ⟨rfl, none, rfl⟩ ?_ ?_
    · rintro i' σ H' hi' ⟨rfl, v, rfl⟩
      refine ⟨_, rfl, _, rfl, _, _, rfl, rfl, .inr (by omega), ?_⟩
      refine ⟨rfl, some (.int (0 + (i' : Int))), ?_⟩
      rw [Nat.pow_succ, Int.natCast_mul]
      rfl
    · rintro σ H' ⟨rfl, v, rfl⟩
      exact ⟨_, rfl, k⟩
/-! #### times -/
abbrev sTm : Stmt := top 15
theorem scTm : FnScope ["first", "second"] ["first", "second"] (defScope sTm) := ⟨rfl, rfl, rfl, by decide +kernel, rfl, by decide +kernel, by decide +kernel⟩
def spTm : Sp := fun vs H Q _ => ∃ (t1 t2 : Addr) (a b c d : Int), vs = [.ref t1, .ref t2] ∧ H t1 = some (.tup [.int a, .int b]) ∧ H t2 = some (.tup [.int c, .int d]) ∧ 0 < b ∧ 0 < d ∧ CMul a c ∧ CMul b d ∧ Lim (b * d) ∧ GivesT H (a * c) (b * d) Q
theorem ok_Tm {n : Nat} {f : Addr} {fd : FuncData} (F : Fun K "times" "times" sTm f fd) (T : Txt K mg CE CF CR) (c_least : Cal P w K mg base "least" n ["over", "under"] spLeast) :
    FnOk P w K mg base CX0 (n + 1) f fd ["first", "second"] spTm := by
  refine F.ok scTm (fun vs H Q E h => ?_) (fun cdv A outer s H vs Q E hr h => ?_)
  · obtain ⟨t1, t2, a, b, c, d, rfl, _⟩ := h
    rfl
  · obtain ⟨t1, t2, a, b, c, d, rfl, h1, h2, hb, hd, m1, m2, hl, k⟩ := h
    refine ⟨_, (pss_one (ps_ret (pe_cal c_least hr rfl (pa_cons (pe_op op_mul (pe_ix ix_tup (pv 0) pe_int (fun _ _ => rfl)) (pe_ix ix_tup (pv 1) pe_int (fun _ _ => rfl))) (pa_cons (pe_op op_mul (pe_ix ix_tup (pv 0) pe_int (fun _ _ => rfl)) (pe_ix ix_tup (pv 1) pe_int (fun _ _ => rfl))) pa_nil))))), ?_⟩
    refine ⟨_, rfl, t1, _, _, _, rfl, rfl, SqT.of h1, atI_nat (j := 0) rfl, _, rfl, t2, _, _, _, rfl, rfl, SqT.of h2, atI_nat (j := 0) rfl, _, _, rfl, rfl, m1, _, rfl, t1, _, _, _, rfl, rfl, SqT.of h1, atI_nat (j := 1) rfl, _, rfl, t2, _, _, _, rfl, rfl, SqT.of h2, atI_nat (j := 1) rfl, _, _, rfl, rfl, m2, _, _, rfl, Int.mul_pos hb hd, hl, fun t nt => ?_⟩
    exact k _ t (same_new nt) upd_same
end
end FB
end
section
set_option maxRecDepth 100000
set_option maxHeartbeats 4000000
namespace FB
open PySem PySem.Spec PyProof.Rows L2
open Vbfuan (State count nsum isum)
/-! ### how great what is left over may become -/
theorem pow_le60 {r e : Nat} (h : r ≤ 10000000) (he : e ≤ 60) : r ^ e ≤ 2 ^ 1440 := by
  refine Nat.le_trans (Nat.pow_le_pow_left (Nat.le_trans h (show 10000000 ≤ 2 ^ 24 by decide)) e) ?_
  rw [← Nat.pow_mul]
  exact Nat.pow_le_pow_right (by decide) (by omega)
theorem lim_pow {r e : Nat} (h : r ≤ 10000000) (he : e ≤ 60) : Lim ((r ^ e : Nat) : Int) := lim_of (n := 1440) (by rw [Int.natAbs_natCast]; exact pow_le60 h he) (by decide)
theorem Good.fl {s : State} (g : Good s) {m : Nat} (h1 : 1 ≤ m) (h2 : m ≤ count s) : (FM.fl s m).natAbs ≤ 2 ^ 44 := by
  have e := g.flow m h1 h2
  have b1 := g.asum h2
  have b2 := g.bsum h2
  have e2 : FM.fl s m = (nsum (Vbfuan.after s m) : Int) - (nsum (Vbfuan.before s m) : Int) := by unfold FM.fl; omega
  rw [e2]
  refine Nat.le_trans (m := 12000000000000) ?_ (by decide)
  omega
theorem Good.la {s : State} (g : Good s) {r T : Nat} (hr : r ≤ 10000000) (hT : T ≤ 60) : ∀ m, m ≤ count s → (FM.la s r m T).natAbs ≤ (m + 1) * 2 ^ 2930
  | 0, _ => by
    unfold FM.la
    rw [FM.behind_same]
    show ((nsum s.first : Int) * ((r ^ T : Nat) : Int) + 0).natAbs ≤ (0 + 1) * 2 ^ 2930
    rw [Int.add_zero, Int.natAbs_mul, Int.natAbs_natCast, Int.natAbs_natCast, Nat.zero_add, Nat.one_mul]
    have b : nsum s.first ≤ 2 ^ 44 := Nat.le_trans (g.bsum (m := 0) (Nat.zero_le _)) (by decide)
    refine Nat.le_trans (Nat.mul_le_mul b (pow_le60 hr hT)) ?_
    rw [← Nat.pow_add]
    exact Nat.pow_le_pow_right (by decide) (by decide)
  | m + 1, hm => by
    have ih := g.la hr hT m (by omega)
    rw [FM.la_succ]
    refine Nat.le_trans (Int.natAbs_add_le _ _) ?_
    rw [Nat.succ_mul (m + 1)]
    refine Nat.add_le_add ih ?_
    rw [Int.natAbs_mul, Int.natAbs_natCast]
    have t := g.t60 (m + 1) hm
    have b1 := pow_le60 hr (e := T - Vbfuan.timeOf s (m + 1)) (by omega)
    have b2 := pow_le60 (show Vbfuan.MILLION ≤ 10000000 by decide) t
    refine Nat.le_trans (Nat.mul_le_mul (g.fl (by omega) hm) (Nat.mul_le_mul b1 b2)) ?_
    rw [← Nat.pow_add, ← Nat.pow_add]
    exact Nat.pow_le_pow_right (by decide) (by decide)
theorem Good.lim_la {s : State} (g : Good s) {r T m : Nat} (hr : r ≤ 10000000) (hT : T ≤ 60) (hm : m ≤ count s) : Lim (FM.la s r m T) := by
  refine lim_of (n := 2935) (Nat.le_trans (g.la hr hT m hm) ?_) (by decide)
  have := g.cnt
  refine Nat.le_trans (Nat.mul_le_mul_right _ (show m + 1 ≤ 2 ^ 5 by omega)) ?_
  rw [← Nat.pow_add]
  exact Nat.le_refl _
theorem Good.times {s : State} (g : Good s) : ∀ {a b : Nat}, a ≤ b → b ≤ count s → Vbfuan.timeOf s a ≤ Vbfuan.timeOf s b
  | a, 0, h, _ => by
    have : a = 0 := by omega
    subst this
    exact Nat.le_refl _
  | a, b + 1, h, hb => by
    by_cases e : a = b + 1
    · subst e
      exact Nat.le_refl _
    · exact Nat.le_trans (g.times (a := a) (b := b) (by omega) (by omega)) (Nat.le_of_lt (g.tmono b (by omega)))
section
variable {P : Program} {w : World} {K : PySem.W.Frag} {mg : Str → Option Value} {base : Heap} {CE CF CR : Addr}
theorem Good.flows {s : State} (g : Good s) {m : Nat} (h1 : 1 ≤ m) (h2 : m ≤ count s) : FM.fl s m = (endOf s m).behind.sum - (endOf s m).before.sum := by
  show FM.fl s m = (toZ (Vbfuan.after s m)).sum - (toZ (Vbfuan.before s m)).sum
  rw [toZ_sum, toZ_sum]
  have e := g.flow m h1 h2
  unfold FM.fl
  omega
/-! #### left_over -/
abbrev sLO : Stmt := top 10
theorem scLO : FnScope ["fund", "rate", "left", "scale", "m", "passed"] ["fund", "rate"] (defScope sLO) := ⟨rfl, rfl, rfl, by decide +kernel, rfl, by decide +kernel, by decide +kernel⟩
def spLO (CE CF : Addr) : Sp := fun vs H Q _ => ∃ (p ea : Addr) (s : State) (z : Int), vs = [.ref p, .int z] ∧ FundS CE CF H p ea s ∧ Good s ∧ 1 ≤ count s ∧ 0 ≤ z ∧ z ≤ 10000000 ∧ Q (.int (Vbfuan.leftOver s z.toNat)) H
theorem ok_LO {n : Nat} {f : Addr} {fd : FuncData} (F : Fun K "left_over" "left_over" sLO f fd) (T : Txt K mg CE CF CR) (c_power : Cal P w K mg base "power" n ["base", "exponent"] spPow) (c_all_flows : Cal P w K mg base "all_flows" n ["end"] (spAF CE)) :
    FnOk P w K mg base CX0 (n + 1) f fd ["fund", "rate"] (spLO CE CF) := by
  refine F.ok scLO (fun vs H Q E h => ?_) (fun cdv A outer s H vs Q E hr h => ?_)
  · obtain ⟨p, ea, s, z, rfl, _⟩ := h
    rfl
  · obtain ⟨p, ea, s, z, rfl, hF, hG, hc1, hz0, hz1, k⟩ := h
    refine ⟨_, (pss_cons (ps_set (i := 2) scLO.nd rfl (Or.inl rfl) (pe_callB (cr_sum rfl) (by rfl) T.nsum boot_sum (pa_cons (pe_fld (pe_ix ix_list (pe_fld (pv 0) rfl) pe_int (fun _ _ => rfl)) rfl) pa_nil)))
        (pss_cons (ps_set (i := 3) scLO.nd rfl (Or.inl rfl) pe_int)
        (pss_cons (ps_for PassesOwn.never rfl (pi_range2 (by rfl) T.nrange (pa_cons pe_int (pa_cons (pe_callB call_len_seq (by rfl) T.nlen PySem.boot_len (pa_cons (pe_fld (pv 0) rfl) pa_nil)) pa_nil))) (pg_name (i := 4) scLO.nd rfl (Or.inl rfl)) (pss_cons (ps_set (i := 5) scLO.nd rfl (Or.inl rfl) (pe_op op_sub (pe_fld (pe_ix ix_list (pe_fld (pv 0) rfl) (pv 4) (fun _ _ => rfl)) rfl) (pe_fld (pe_ix ix_list (pe_fld (pv 0) rfl) (pe_op op_sub (pv 4) pe_int) (fun _ _ => rfl)) rfl)))
        (pss_cons (ps_set (i := 2) scLO.nd rfl (Or.inl rfl) (pe_op op_mulL (pv 2) (pe_cal c_power hr rfl (pa_cons (pv 1) (pa_cons (pv 5) pa_nil)))))
        (pss_cons (ps_set (i := 3) scLO.nd rfl (Or.inl rfl) (pe_op op_mulL (pv 3) (pe_cal c_power hr rfl (pa_cons (pe_const T.c_MILLION rfl) (pa_cons (pv 5) pa_nil)))))
        (pss_one (ps_if (pt_cmpR op_lt (pv 4) (pe_op op_sub (pe_callB call_len_seq (by rfl) T.nlen PySem.boot_len (pa_cons (pe_fld (pv 0) rfl) pa_nil)) pe_int) (nomark _)) (pss_one (ps_set (i := 2) scLO.nd rfl (Or.inl rfl) (pe_op op_add (pv 2) (pe_op op_mulL (pe_cal c_all_flows hr rfl (pa_cons (pe_ix ix_list (pe_fld (pv 0) rfl) (pv 4) (fun _ _ => rfl)) pa_nil)) (pv 3))))) pss_nil))))))
        (pss_one (ps_ret (pe_op op_sub (pv 2) (pe_op op_mulL (pe_callB (cr_sum rfl) (by rfl) T.nsum boot_sum (pa_cons (pe_fld (pe_ix ix_list (pe_fld (pv 0) rfl) (pe_un un_neg pe_int) (fun _ _ => rfl)) rfl) pa_nil)) (pv 3)))))))), ?_⟩
    obtain ⟨r, rfl⟩ : ∃ r : Nat, z = (r : Int) := ⟨z.toNat, by omega⟩
    rw [Int.toNat_natCast] at k
    have hr' : r ≤ 10000000 := by omega
    have hc := hG.cnt
    obtain ⟨dx, wa, as, h1, h2, h3, hlen, hall⟩ := hF.all
    obtain ⟨a0, dxe0, b0, hh0, ff0, g0, gE0, g1, g2, g3, g4⟩ := hall 0 (Nat.zero_le _)
    refine ⟨_, rfl, p, CF, dx, _, _, rfl, h1, T.clF, T.aF_ends, fundF_ends _ _, ea, _, _, _, rfl, rfl, SqL.of h3, atI_nat (j := 0) g0, a0, CE, dxe0, _, _, rfl, g1, T.clE, T.aE_before, endF_before _ _ _ _, b0, _, rfl, SqL.of g2, ?_⟩
    rw [toZ_sum]
    refine ⟨_, rfl, p, CF, dx, _, _, rfl, h1, T.clF, T.aF_ends, fundF_ends _ _, ea, _, rfl, .inl (SqL.of h3), _, _, rfl, (by rw [hlen]; omega), ?_⟩
    have en : ((((as.map V.ref).length : Nat) : Int) - 1).toNat = count s := by rw [hlen]; omega
    rw [en]
    refine for_range (fun i' σ H' => H' = H ∧ ∃ v u : Option V, σ = [some (.ref p), some (.int r), some (.int (FM.la s r (min i' (count s - 1)) (Vbfuan.timeOf s i'))), some (.int ((1000000 ^ Vbfuan.timeOf s i' : Nat) : Int)), v, u]) ⟨rfl, none, none, ?_⟩ ?_ ?_
    · rw [Nat.zero_min, show Vbfuan.timeOf s 0 = 0 from rfl, FM.la_zero]
      rfl
    · rintro i' σ H' hi' ⟨rfl, v, u, rfl⟩
      obtain ⟨a, dxe, b, hh, ff, e0, eE, e1, e2, e3, e4⟩ := hall (i' + 1) (by omega)
      obtain ⟨a', dxe', b', hh', ff', d0, dE, d1, d2, d3, d4⟩ := hall i' (by omega)
      have tm := hG.tmono i' (by omega)
      have t60 := hG.t60 (i' + 1) (by omega)
      refine ⟨_, rfl, p, CF, dx, _, _, rfl, h1, T.clF, T.aF_ends, fundF_ends _ _, _, rfl, ea, _, _, _, rfl, rfl, SqL.of h3, at_of (j := i' + 1) (by omega) e0, a, CE, dxe, _, _, rfl, e1, T.clE, T.aE_time, endF_time _ _ _ _, _, rfl, p, CF, dx, _, _, rfl, h1, T.clF, T.aF_ends, fundF_ends _ _, _, rfl, _, _, rfl, rfl, ea, _, _, _, rfl, rfl, SqL.of h3, at_of (j := i') (by omega) d0, a', CE, dxe', _, _, rfl, d1, T.clE, T.aE_time, endF_time _ _ _ _, _, _, rfl, rfl, ?_⟩
      have ed : ((Vbfuan.timeOf s (i' + 1) : Int) - (Vbfuan.timeOf s i' : Int)).toNat = Vbfuan.timeOf s (i' + 1) - Vbfuan.timeOf s i' := by omega
      have em : min i' (count s - 1) = i' := by omega
      rw [em]
      refine ⟨_, rfl, _, rfl, _, rfl, r, _, rfl, hr', by omega, by omega, _, _, rfl, rfl, ⟨hG.lim_la hr' (by omega) (by omega), lim_pow hr' (by omega)⟩, ?_⟩
      refine ⟨_, rfl, _, rfl, 1000000, _, rfl, by decide, by omega, by omega, _, _, rfl, rfl, ⟨lim_pow (by decide) (by omega), lim_pow (by decide) (by omega)⟩, ?_⟩
      have eL : FM.la s r i' (Vbfuan.timeOf s i') * ((r ^ ((Vbfuan.timeOf s (i' + 1) : Int) - (Vbfuan.timeOf s i' : Int)).toNat : Nat) : Int) = FM.la s r i' (Vbfuan.timeOf s (i' + 1)) := by
        rw [ed, ← FM.la_shift (T := Vbfuan.timeOf s i') (fun m _ hm => hG.times hm (by omega))]
        congr 1
        omega
      have eS : ((1000000 ^ Vbfuan.timeOf s i' : Nat) : Int) * ((1000000 ^ ((Vbfuan.timeOf s (i' + 1) : Int) - (Vbfuan.timeOf s i' : Int)).toNat : Nat) : Int) = ((1000000 ^ Vbfuan.timeOf s (i' + 1) : Nat) : Int) := by
        rw [ed, ← Int.natCast_mul, ← Nat.pow_add]
        congr 2
        omega
      have eN : FM.la s r (i' + 1) (Vbfuan.timeOf s (i' + 1)) = FM.la s r i' (Vbfuan.timeOf s (i' + 1)) + FM.fl s (i' + 1) * ((1000000 ^ Vbfuan.timeOf s (i' + 1) : Nat) : Int) := FM.la_now s r i'
      have lS : Lim (((1000000 ^ Vbfuan.timeOf s i' : Nat) : Int) * ((1000000 ^ ((Vbfuan.timeOf s (i' + 1) : Int) - (Vbfuan.timeOf s i' : Int)).toNat : Nat) : Int)) := by rw [eS]; exact lim_pow (by decide) (by omega)
      refine ⟨_, rfl, _, rfl, p, CF, dx, _, _, rfl, h1, T.clF, T.aF_ends, fundF_ends _ _, ea, _, rfl, .inl (SqL.of h3), _, _, rfl, rfl, _, _, rfl, rfl, _, rfl, iteD (fun hlt => ?_) (fun hlt => ?_)⟩
      · rw [hlen] at hlt
        have em' : min (i' + 1) (count s - 1) = i' + 1 := by omega
        refine ⟨_, rfl, _, rfl, p, CF, dx, _, _, rfl, h1, T.clF, T.aF_ends, fundF_ends _ _, _, rfl, ea, _, _, _, rfl, rfl, SqL.of h3, at_of (j := i' + 1) (by omega) e0, a, _, FM.fl s (i' + 1), rfl, eE, hG.flows (by omega) (by omega), _, rfl, _, _, rfl, rfl, ⟨lim_of (hG.fl (by omega) (by omega)) (by decide), lS⟩, _, _, rfl, rfl, ?_⟩
        refine ⟨rfl, some (.int (1 + (i' : Int))), some (.int ((Vbfuan.timeOf s (i' + 1) : Int) - (Vbfuan.timeOf s i' : Int))), ?_⟩
        rw [em', eN, ← eL, ← eS]
        rfl
      · rw [hlen] at hlt
        have em' : min (i' + 1) (count s - 1) = i' := by omega
        refine ⟨rfl, some (.int (1 + (i' : Int))), some (.int ((Vbfuan.timeOf s (i' + 1) : Int) - (Vbfuan.timeOf s i' : Int))), ?_⟩
        rw [em', ← eL, ← eS]
        rfl
    · rintro σ H' ⟨rfl, v, u, rfl⟩
      obtain ⟨a, dxe, b, hh, ff, e0, eE, e1, e2, e3, e4⟩ := hall (count s) (Nat.le_refl _)
      have em : min (count s) (count s - 1) = count s - 1 := by omega
      have e0' : (as.map V.ref)[(as.map V.ref).length - 1]? = some (V.ref a) := by rw [hlen]; exact e0
      have t60 := hG.t60 (count s) (Nat.le_refl _)
      have bs := hG.bsum (Nat.le_refl (count s))
      rw [em]
      refine ⟨_, rfl, _, rfl, p, CF, dx, _, _, rfl, h1, T.clF, T.aF_ends, fundF_ends _ _, _, rfl, ea, _, _, _, rfl, rfl, SqL.of h3, at_neg1 e0', a, CE, dxe, _, _, rfl, e1, T.clE, T.aE_before, endF_before _ _ _ _, b, _, rfl, SqL.of e2, _, rfl, _, _, rfl, rfl, ⟨lim_of (n := 44) ?_ (by decide), lim_pow (by decide) t60⟩, _, _, rfl, rfl, ?_⟩
      · rw [toZ_sum, Int.natAbs_natCast]
        exact Nat.le_trans bs (by decide)
      · rw [toZ_sum]
        exact k
/-! #### money_weighted -/
abbrev sMW : Stmt := top 11
theorem scMW : FnScope ["fund", "low", "high", "middle"] ["fund"] (defScope sMW) := ⟨rfl, rfl, rfl, by decide +kernel, rfl, by decide +kernel, by decide +kernel⟩
def spMW (CE CF : Addr) : Sp := fun vs H Q _ => ∃ (p ea : Addr) (s : State), vs = [.ref p] ∧ FundS CE CF H p ea s ∧ Good s ∧ 1 ≤ count s ∧ Q (.int (Vbfuan.halved s 24 0 Vbfuan.TOP : Nat)) H
theorem ok_MW {n : Nat} {f : Addr} {fd : FuncData} (F : Fun K "money_weighted" "money_weighted" sMW f fd) (T : Txt K mg CE CF CR) (c_left_over : Cal P w K mg base "left_over" n ["fund", "rate"] (spLO CE CF)) :
    FnOk P w K mg base CX0 (n + 1) f fd ["fund"] (spMW CE CF) := by
  refine F.ok scMW (fun vs H Q E h => ?_) (fun cdv A outer s H vs Q E hr h => ?_)
  · obtain ⟨p, ea, s, rfl, _⟩ := h
    rfl
  · obtain ⟨p, ea, s, rfl, hF, hG, hc1, k⟩ := h
    refine ⟨_, (pss_cons (ps_set (i := 1) scMW.nd rfl (Or.inl rfl) pe_int)
        (pss_cons (ps_set (i := 2) scMW.nd rfl (Or.inl rfl) (pe_const T.c_GREATEST_RATE rfl))
        (pss_cons (ps_while PassesOwn.never (pt_cmpR op_gt (pv 2) (pe_op op_add (pv 1) pe_int) (nomark _)) (pss_cons (ps_set (i := 3) scMW.nd rfl (Or.inl rfl) (pe_op op_fdivL (pe_op op_add (pv 1) (pv 2)) pe_int))
        (pss_one (ps_if (pt_cmpR op_lt (pe_cal c_left_over hr rfl (pa_cons (pv 0) (pa_cons (pv 3) pa_nil))) pe_int (nomark _)) (pss_one (ps_set (i := 1) scMW.nd rfl (Or.inl rfl) (pv 3))) (pss_one (ps_set (i := 2) scMW.nd rfl (Or.inl rfl) (pv 3)))))))
        (pss_one (ps_ret (pv 1)))))), ?_⟩
    refine ⟨fun m σ H' => H' = H ∧ ∃ (lo hi : Int) (f : Nat) (v : Option V), σ = [some (.ref p), some (.int lo), some (.int hi), v] ∧ m = (hi - lo).toNat ∧ 0 ≤ lo ∧ lo < hi ∧ hi ≤ 10000000 ∧ hi.toNat - lo.toNat ≤ 2 ^ f ∧ Vbfuan.halved s f lo.toNat hi.toNat = Vbfuan.halved s 24 0 Vbfuan.TOP,
      ⟨_, rfl, 0, 10000000, 24, none, rfl, rfl, by decide, by decide, by decide, by decide, rfl⟩, ?_⟩
    rintro m σ H' ⟨rfl, lo, hi, f, v, rfl, rfl, h0, hlt, htop, hf, hv⟩
    refine ⟨_, rfl, _, rfl, _, _, rfl, rfl, _, _, rfl, rfl, _, rfl, iteD (fun hgo => ?_) (fun hgo => ?_)⟩
    · refine ⟨fun σ' H2 => H2 = H' ∧ ∃ (lo' hi' : Int) (f : Nat) (v : Option V), σ' = [some (.ref p), some (.int lo'), some (.int hi'), v] ∧ (hi' - lo').toNat < (hi - lo).toNat ∧ 0 ≤ lo' ∧ lo' < hi' ∧ hi' ≤ 10000000 ∧ hi'.toNat - lo'.toNat ≤ 2 ^ f ∧ Vbfuan.halved s f lo'.toNat hi'.toNat = Vbfuan.halved s 24 0 Vbfuan.TOP,
        fun σ' H2 ⟨e1, lo', hi', f', v', e2, e3, e4, e5, e6, e7, e8⟩ => ⟨_, e3, e1, lo', hi', f', v', e2, rfl, e4, e5, e6, e7, e8⟩, ?_⟩
      have ez : ((lo + hi) / 2).toNat = (lo.toNat + hi.toNat) / 2 := by omega
      obtain ⟨g, hg1, hg2⟩ := FM.halved_go (s := s) (f := f) (lo := lo.toNat) (hi := hi.toNat) (by omega) hf
      rw [← ez] at hg1 hg2
      refine ⟨_, rfl, _, rfl, _, _, rfl, rfl, _, _, rfl, rfl, ⟨by decide, lim_of (n := 2) (by decide) (by decide)⟩, ?_⟩
      refine ⟨_, rfl, _, rfl, p, ea, s, _, rfl, hF, hG, hc1, by omega, by omega, _, _, rfl, rfl, _, rfl, iteD (fun hneg => ?_) (fun hneg => ?_)⟩
      · obtain ⟨q1, q2⟩ := hg1 hneg
        refine ⟨_, rfl, rfl, (lo + hi) / 2, hi, g, some (.int ((lo + hi) / 2)), rfl, by omega, by omega, by omega, htop, q2, ?_⟩
        rw [← q1]
        exact hv
      · obtain ⟨q1, q2⟩ := hg2 hneg
        refine ⟨_, rfl, rfl, lo, (lo + hi) / 2, g, some (.int ((lo + hi) / 2)), rfl, by omega, h0, by omega, by omega, q2, ?_⟩
        rw [← q1]
        exact hv
    · refine ⟨_, rfl, ?_⟩
      rw [FM.halved_done s f _ _ (by omega)] at hv
      rw [← hv] at k
      have e : ((lo.toNat : Nat) : Int) = lo := by omega
      rw [e] at k
      exact k
end
end FB
end
section
set_option maxRecDepth 100000
set_option maxHeartbeats 4000000
namespace FB
open PySem PySem.Spec PyProof.Rows L2
open Vbfuan (State count nsum isum inside)
section
variable {P : Program} {w : World} {K : PySem.W.Frag} {mg : Str → Option Value} {base : Heap} {CE CF CR : Addr}
/-! #### averaged_upper, averaged_lower -/
theorem cut_mid {xs : List V} {a b : Nat} {z : Int} (ez : z = (a : Int)) (h : a ≤ b) (hb : b ≤ xs.length) : cutV xs (some z) (some (b : Int)) = (xs.drop a).take (b - a) := by
  subst ez
  have e1 : HT.sIx xs.length 0 (some (a : Int)) = a := by
    unfold HT.sIx
    simp only []
    rw [if_neg (by omega)]
    omega
  have e2 : HT.sIx xs.length xs.length (some (b : Int)) = b := by
    unfold HT.sIx
    simp only []
    rw [if_neg (by omega)]
    omega
  unfold cutV
  rw [e1, e2]
theorem Good.span {s : State} (g : Good s) {j i : Nat} (hi : j + 1 + i ≤ count s) (f : Nat → Int) : isum ((Vbfuan.behind j (j + 1 + i - 1)).map f) = ((Vbfuan.behind j (j + i)).map f).sum := by
  rw [isum_eq, show j + 1 + i - 1 = j + i by omega]
abbrev sAU : Stmt := top 21
theorem scAU : FnScope ["fund", "j", "k", "first", "last", "end", "flows"] ["fund", "j", "k"] (defScope sAU) := ⟨rfl, rfl, rfl, by decide +kernel, rfl, by decide +kernel, by decide +kernel⟩
def spAU (CE CF : Addr) : Sp := fun vs H Q _ => ∃ (p ea : Addr) (s : State) (j i : Nat), vs = [.ref p, .int j, .int (j + 1 + i : Nat)] ∧ FundS CE CF H p ea s ∧ Good s ∧ j + 1 + i ≤ count s ∧ Gives H (.int (Vbfuan.dietzNum s j (j + 1 + i))) Q
theorem behind_len (j i : Nat) : (Vbfuan.behind j (j + i)).length = i := by
  unfold Vbfuan.behind
  rw [List.length_map, List.length_range]
  omega
theorem behind_at {j i t : Nat} (h : t < i) : (Vbfuan.behind j (j + i))[t]? = some (j + 1 + t) := by
  unfold Vbfuan.behind
  rw [List.getElem?_map, List.getElem?_range (by omega)]
  rfl
theorem mid_at {xs : List V} {j i t : Nat} {x : V} (h : ((xs.drop (j + 1)).take (j + 1 + i - (j + 1)))[t]? = some x) : t < i ∧ xs[j + 1 + t]? = some x := by
  have h1 := (List.getElem?_eq_some_iff.mp h).1
  rw [List.length_take] at h1
  have ht : t < i := by omega
  rw [List.getElem?_take_of_lt (by omega), List.getElem?_drop] at h
  exact ⟨ht, h⟩
theorem ok_AU {n : Nat} {f : Addr} {fd : FuncData} (F : Fun K "averaged_upper" "averaged_upper" sAU f fd) (T : Txt K mg CE CF CR) (c_all_flows : Cal P w K mg base "all_flows" n ["end"] (spAF CE)) :
    FnOk P w K mg base CX0 (n + 1) f fd ["fund", "j", "k"] (spAU CE CF) := by
  refine F.ok scAU (fun vs H Q E h => ?_) (fun cdv A outer s H vs Q E hr h => ?_)
  · obtain ⟨p, ea, s, j, i, rfl, _⟩ := h
    rfl
  · obtain ⟨p, ea, s, j, i, rfl, hF, hG, hi, kk⟩ := h
    refine ⟨_, (pss_cons (ps_set (i := 3) scAU.nd rfl (Or.inl rfl) (pe_ix ix_list (pe_fld (pv 0) rfl) (pv 1) (fun _ _ => rfl)))
        (pss_cons (ps_set (i := 4) scAU.nd rfl (Or.inl rfl) (pe_ix ix_list (pe_fld (pv 0) rfl) (pv 2) (fun _ _ => rfl)))
        (pss_cons (ps_set (i := 6) scAU.nd rfl (Or.inl rfl) (pe_callB (cr_sum rfl) (by rfl) T.nsum boot_sum (pa_cons (pe_lc (own := [("end", 5)]) (g := gName 5) rfl scAU.nd (pi_list (pe_slice sl_list (pe_fld (pv 0) rfl) (po_some (pe_op op_add (pv 1) pe_int)) (po_some (pv 2)))) (blkOk_by (N := ["fund", "j", "k", "first", "last", "end", "flows"]) (sc := defScope sAU) (by decide +kernel)) (fun _ _ _ _ _ => (pg_name (i := 5) scAU.nd rfl (Or.inl rfl) (Or.inr rfl))) (fun _ _ _ _ _ => pts_nil) (fun _ _ _ _ _ => (pe_cal c_all_flows hr rfl (pa_cons (pv 5) pa_nil)))) pa_nil)))
        (pss_one (ps_ret (pe_op op_mul (pe_op op_sub (pe_op op_sub (pe_callB (cr_sum rfl) (by rfl) T.nsum boot_sum (pa_cons (pe_fld (pv 4) rfl) pa_nil)) (pe_callB (cr_sum rfl) (by rfl) T.nsum boot_sum (pa_cons (pe_fld (pv 3) rfl) pa_nil))) (pv 6)) (pe_op op_sub (pe_fld (pv 4) rfl) (pe_fld (pv 3) rfl)))))))), ?_⟩
    have hc := hG.cnt
    obtain ⟨dx, wa, as, h1, h2, h3, hlen, hall⟩ := hF.all
    obtain ⟨aj, dxj, bj, hj, fj, j0, jE, j1, j2, j3, j4⟩ := hall j (by omega)
    obtain ⟨ak, dxk, bk, hk, fk, k0, kE, k1, k2, k3, k4⟩ := hall (j + 1 + i) hi
    refine ⟨_, rfl, p, CF, dx, _, _, rfl, h1, T.clF, T.aF_ends, fundF_ends _ _, _, rfl, ea, _, _, _, rfl, rfl, SqL.of h3, atI_nat j0, ?_⟩
    refine ⟨_, rfl, p, CF, dx, _, _, rfl, h1, T.clF, T.aF_ends, fundF_ends _ _, _, rfl, ea, _, _, _, rfl, rfl, SqL.of h3, atI_nat k0, ?_⟩
    refine ⟨_, rfl, p, CF, dx, _, _, rfl, h1, T.clF, T.aF_ends, fundF_ends _ _, _, rfl, _, _, rfl, rfl, _, rfl, _, rfl, _, rfl, ea, as.map V.ref, rfl, SqL.of h3, fun l nl => ?_⟩
    rw [cut_mid (a := j + 1) (b := j + 1 + i) (by omega) (by omega) (by omega)]
    have s0 := same_new (o := .lst (((as.map V.ref).drop (j + 1)).take (j + 1 + i - (j + 1)))) nl
    refine ⟨l, rfl, ⟨_, SqL.of upd_same⟩, fun D hD => ?_⟩
    refine lc_map (K := K) (xs := ((as.map V.ref).drop (j + 1)).take (j + 1 + i - (j + 1))) (((Vbfuan.behind j (j + i)).map (FM.fl s)).map V.int) hD (SqL.of upd_same) ?_ ?_ ?_ ?_
    · rw [List.length_map, List.length_map, behind_len, List.length_take, List.length_drop, hlen]
      omega
    · rw [List.length_map, List.length_map, behind_len]
      have := small (n := 24) (by decide)
      omega
    · intro t x y H' R E' hx hy s' hR
      obtain ⟨ht, hx⟩ := mid_at hx
      obtain ⟨am, dxm, bm, hm, fm, m0, mE, m1, m2, m3, m4⟩ := hall (j + 1 + t) (by omega)
      rw [m0] at hx
      have ex := Option.some.inj hx
      subst ex
      have ey : y = V.int (FM.fl s (j + 1 + t)) := by
        rw [List.getElem?_map, List.getElem?_map, behind_at ht] at hy
        exact (Option.some.inj hy).symm
      subst ey
      refine ⟨rfl, yesT ?_⟩
      exact ⟨_, rfl, am, _, FM.fl s (j + 1 + t), rfl, (mE.same s0).same s', hG.flows (by omega) (by omega), hR _ (Same.refl _)⟩
    · intro H' s' hH
      have s1 := s0.trans s'
      have t1 := hG.times (a := j) (b := j + 1 + i) (by omega) hi
      have t60 := hG.t60 (j + 1 + i) hi
      refine ⟨D, _, rfl, SqL.of hH, ?_⟩
      refine ⟨_, rfl, ak, CE, dxk, _, _, rfl, s1 _ _ k1, T.clE, T.aE_before, endF_before _ _ _ _, bk, _, rfl, SqL.of (s1 _ _ k2), _, rfl, aj, CE, dxj, _, _, rfl, s1 _ _ j1, T.clE, T.aE_behind, endF_behind _ _ _ _, hj, _, rfl, SqL.of (s1 _ _ j3), _, _, rfl, rfl, _, rfl, _, _, rfl, rfl, _, rfl, ak, CE, dxk, _, _, rfl, s1 _ _ k1, T.clE, T.aE_time, endF_time _ _ _ _, _, rfl, aj, CE, dxj, _, _, rfl, s1 _ _ j1, T.clE, T.aE_time, endF_time _ _ _ _, _, _, rfl, rfl, _, _, rfl, rfl, .inr (by omega), ?_⟩
      rw [toZ_sum, toZ_sum]
      have e : Vbfuan.dietzNum s j (j + 1 + i) = ((nsum (Vbfuan.before s (j + 1 + i)) : Int) - (nsum (Vbfuan.after s j) : Int) - ((Vbfuan.behind j (j + i)).map (FM.fl s)).sum) * ((Vbfuan.timeOf s (j + 1 + i) : Int) - (Vbfuan.timeOf s j : Int)) := by
        rw [← hG.span hi, show (Vbfuan.timeOf s (j + 1 + i) : Int) - (Vbfuan.timeOf s j : Int) = ((Vbfuan.timeOf s (j + 1 + i) - Vbfuan.timeOf s j : Nat) : Int) by omega]
        rfl
      have kk' := kk H' s1
      rw [e] at kk'
      exact kk'
abbrev sAVL : Stmt := top 22
theorem scAVL : FnScope ["fund", "j", "k", "first", "last", "end", "flows"] ["fund", "j", "k"] (defScope sAVL) := ⟨rfl, rfl, rfl, by decide +kernel, rfl, by decide +kernel, by decide +kernel⟩
def spAVL (CE CF : Addr) : Sp := fun vs H Q _ => ∃ (p ea : Addr) (s : State) (j i : Nat), vs = [.ref p, .int j, .int (j + 1 + i : Nat)] ∧ FundS CE CF H p ea s ∧ Good s ∧ j + 1 + i ≤ count s ∧ Gives H (.int (Vbfuan.dietzDen s j (j + 1 + i))) Q
theorem ok_AVL {n : Nat} {f : Addr} {fd : FuncData} (F : Fun K "averaged_lower" "averaged_lower" sAVL f fd) (T : Txt K mg CE CF CR) (c_all_flows : Cal P w K mg base "all_flows" n ["end"] (spAF CE)) :
    FnOk P w K mg base CX0 (n + 1) f fd ["fund", "j", "k"] (spAVL CE CF) := by
  refine F.ok scAVL (fun vs H Q E h => ?_) (fun cdv A outer s H vs Q E hr h => ?_)
  · obtain ⟨p, ea, s, j, i, rfl, _⟩ := h
    rfl
  · obtain ⟨p, ea, s, j, i, rfl, hF, hG, hi, kk⟩ := h
    refine ⟨_, (pss_cons (ps_set (i := 3) scAVL.nd rfl (Or.inl rfl) (pe_ix ix_list (pe_fld (pv 0) rfl) (pv 1) (fun _ _ => rfl)))
        (pss_cons (ps_set (i := 4) scAVL.nd rfl (Or.inr rfl) (pe_ix ix_list (pe_fld (pv 0) rfl) (pv 2) (fun _ _ => rfl)))
        (pss_cons (ps_set (i := 6) scAVL.nd rfl (Or.inl rfl) (pe_callB (cr_sum rfl) (by rfl) T.nsum boot_sum (pa_cons (pe_lc (own := [("end", 5)]) (g := gName 5) (te := tOp (rI CMul fun i j => .int (i * j)) (tCall (spAF CE) [] E0 (tCons (tVar 5) tNil)) (tOp (rI0 fun i j => .int (i - j)) (tFld K (tVar 4) "time") (tFld K (tVar 5) "time"))) rfl scAVL.nd (pi_list (pe_slice sl_list (pe_fld (pv 0) rfl) (po_some (pe_op op_add (pv 1) pe_int)) (po_some (pv 2)))) (blkOk_by (N := ["fund", "j", "k", "first", "last", "end", "flows"]) (sc := defScope sAVL) (by decide +kernel)) (fun _ _ _ _ _ => (pg_name (i := 5) scAVL.nd rfl (Or.inl rfl) (Or.inr rfl))) (fun _ _ _ _ _ => pts_nil) (fun _ _ _ _ _ => (pe_op op_mul (pe_cal c_all_flows hr rfl (pa_cons (pv 5) pa_nil)) (pe_op op_sub (pe_fld (pv 4) rfl) (pe_fld (pv 5) rfl))))) pa_nil)))
        (pss_one (ps_ret (pe_op op_add (pe_op op_mul (pe_callB (cr_sum rfl) (by rfl) T.nsum boot_sum (pa_cons (pe_fld (pv 3) rfl) pa_nil)) (pe_op op_sub (pe_fld (pv 4) rfl) (pe_fld (pv 3) rfl))) (pv 6))))))), ?_⟩
    have hc := hG.cnt
    obtain ⟨dx, wa, as, h1, h2, h3, hlen, hall⟩ := hF.all
    obtain ⟨aj, dxj, bj, hj, fj, j0, jE, j1, j2, j3, j4⟩ := hall j (by omega)
    obtain ⟨ak, dxk, bk, hk, fk, k0, kE, k1, k2, k3, k4⟩ := hall (j + 1 + i) hi
    have t60 := hG.t60 (j + 1 + i) hi
    refine ⟨_, rfl, p, CF, dx, _, _, rfl, h1, T.clF, T.aF_ends, fundF_ends _ _, _, rfl, ea, _, _, _, rfl, rfl, SqL.of h3, atI_nat j0, ?_⟩
    refine ⟨_, rfl, p, CF, dx, _, _, rfl, h1, T.clF, T.aF_ends, fundF_ends _ _, _, rfl, ea, _, _, _, rfl, rfl, SqL.of h3, atI_nat k0, ?_⟩
    refine ⟨_, rfl, p, CF, dx, _, _, rfl, h1, T.clF, T.aF_ends, fundF_ends _ _, _, rfl, _, _, rfl, rfl, _, rfl, _, rfl, _, rfl, ea, as.map V.ref, rfl, SqL.of h3, fun l nl => ?_⟩
    rw [cut_mid (a := j + 1) (b := j + 1 + i) (by omega) (by omega) (by omega)]
    have s0 := same_new (o := .lst (((as.map V.ref).drop (j + 1)).take (j + 1 + i - (j + 1)))) nl
    refine ⟨l, rfl, ⟨_, SqL.of upd_same⟩, fun D hD => ?_⟩
    refine lc_map (K := K) (xs := ((as.map V.ref).drop (j + 1)).take (j + 1 + i - (j + 1))) (((Vbfuan.behind j (j + i)).map fun m => FM.fl s m * ((Vbfuan.timeOf s (j + 1 + i) : Int) - (Vbfuan.timeOf s m : Int))).map V.int) hD (SqL.of upd_same) ?_ ?_ ?_ ?_
    · rw [List.length_map, List.length_map, behind_len, List.length_take, List.length_drop, hlen]
      omega
    · rw [List.length_map, List.length_map, behind_len]
      have := small (n := 24) (by decide)
      omega
    · intro t x y H' R E' hx hy s' hR
      obtain ⟨ht, hx⟩ := mid_at hx
      obtain ⟨am, dxm, bm, hm, fm, m0, mE, m1, m2, m3, m4⟩ := hall (j + 1 + t) (by omega)
      rw [m0] at hx
      have ex := Option.some.inj hx
      subst ex
      have ey : y = V.int (FM.fl s (j + 1 + t) * ((Vbfuan.timeOf s (j + 1 + i) : Int) - (Vbfuan.timeOf s (j + 1 + t) : Int))) := by
        rw [List.getElem?_map, List.getElem?_map, behind_at ht] at hy
        exact (Option.some.inj hy).symm
      subst ey
      have s1 := s0.trans s'
      have tm60 := hG.t60 (j + 1 + t) (by omega)
      refine ⟨rfl, yesT ?_⟩
      exact ⟨_, rfl, am, _, FM.fl s (j + 1 + t), rfl, mE.same s1, hG.flows (by omega) (by omega), _, rfl, ak, CE, dxk, _, _, rfl, s1 _ _ k1, T.clE, T.aE_time, endF_time _ _ _ _, _, rfl, am, CE, dxm, _, _, rfl, s1 _ _ m1, T.clE, T.aE_time, endF_time _ _ _ _, _, _, rfl, rfl, _, _, rfl, rfl, .inr (by omega), hR _ (Same.refl _)⟩
    · intro H' s' hH
      have s1 := s0.trans s'
      have t1 := hG.times (a := j) (b := j + 1 + i) (by omega) hi
      refine ⟨D, _, rfl, SqL.of hH, ?_⟩
      refine ⟨_, rfl, aj, CE, dxj, _, _, rfl, s1 _ _ j1, T.clE, T.aE_behind, endF_behind _ _ _ _, hj, _, rfl, SqL.of (s1 _ _ j3), _, rfl, ak, CE, dxk, _, _, rfl, s1 _ _ k1, T.clE, T.aE_time, endF_time _ _ _ _, _, rfl, aj, CE, dxj, _, _, rfl, s1 _ _ j1, T.clE, T.aE_time, endF_time _ _ _ _, _, _, rfl, rfl, _, _, rfl, rfl, .inr (by omega), _, rfl, _, _, rfl, rfl, ?_⟩
      rw [toZ_sum]
      have e : Vbfuan.dietzDen s j (j + 1 + i) = (nsum (Vbfuan.after s j) : Int) * ((Vbfuan.timeOf s (j + 1 + i) : Int) - (Vbfuan.timeOf s j : Int)) + ((Vbfuan.behind j (j + i)).map fun m => FM.fl s m * ((Vbfuan.timeOf s (j + 1 + i) : Int) - (Vbfuan.timeOf s m : Int))).sum := by
        rw [← hG.span hi, show (Vbfuan.timeOf s (j + 1 + i) : Int) - (Vbfuan.timeOf s j : Int) = ((Vbfuan.timeOf s (j + 1 + i) - Vbfuan.timeOf s j : Nat) : Int) by omega]
        show _ + isum _ = _ + isum _
        congr 2
        refine List.map_congr_left fun m hm => ?_
        have hm' := FM.mem_behind hm
        have tm := hG.times (a := m) (b := j + 1 + i) (by omega) hi
        show FM.fl s m * _ = FM.fl s m * _
        congr 1
        omega
      have kk' := kk H' s1
      rw [e] at kk'
      exact kk'
/-! #### refusals -/
abbrev sNP : Stmt := top 51
theorem scNP : FnScope ["fund"] ["fund"] (defScope sNP) := ⟨rfl, rfl, rfl, by decide +kernel, rfl, by decide +kernel, by decide +kernel⟩
def rNone (s : State) : Int := if count s = 0 then -9 else 0
def spNP (CE CF : Addr) : Sp := fun vs H Q _ => ∃ (p ea : Addr) (s : State), vs = [.ref p] ∧ FundS CE CF H p ea s ∧ Q (.int (rNone s)) H
theorem ok_NP {n : Nat} {f : Addr} {fd : FuncData} (F : Fun K "no_period_refusal" "no_period_refusal" sNP f fd) (T : Txt K mg CE CF CR) :
    FnOk P w K mg base CX0 (n + 1) f fd ["fund"] (spNP CE CF) := by
  refine F.ok scNP (fun vs H Q E h => ?_) (fun cdv A outer s H vs Q E hr h => ?_)
  · obtain ⟨p, ea, s, rfl, _⟩ := h
    rfl
  · obtain ⟨p, ea, s, rfl, hF, k⟩ := h
    refine ⟨_, (pss_cons (ps_if (pt_cmpR op_eq (pe_callB call_len_seq (by rfl) T.nlen PySem.boot_len (pa_cons (pe_fld (pv 0) rfl) pa_nil)) pe_int (nomark _)) (pss_one (ps_ret (pe_const T.c_NOT_TO_BE_TOLD rfl))) pss_nil)
        (pss_one (ps_ret (pe_const T.c_NOTHING_REFUSED rfl)))), ?_⟩
    obtain ⟨dx, wa, as, h1, h2, h3, hlen, hall⟩ := hF.all
    refine ⟨_, rfl, p, CF, dx, _, _, rfl, h1, T.clF, T.aF_ends, fundF_ends _ _, ea, _, rfl, .inl (SqL.of h3), rfl, _, rfl, ?_⟩
    rw [hlen]
    refine iteEq (fun q => ?_) (fun q => ?_)
    · have e : rNone s = -9 := if_pos (by omega)
      rw [e] at k
      exact k
    · have e : rNone s = 0 := if_neg (by omega)
      rw [e] at k
      exact k
abbrev sRR : Stmt := top 52
theorem scRR : FnScope ["fund", "rate"] ["fund", "rate"] (defScope sRR) := ⟨rfl, rfl, rfl, by decide +kernel, rfl, by decide +kernel, by decide +kernel⟩
def rRate (s : State) (z : Int) : Int := if inside z 0 10000000 = false then -1 else rNone s
def spRR (CE CF : Addr) : Sp := fun vs H Q _ => ∃ (p ea : Addr) (s : State) (z : Int), vs = [.ref p, .int z] ∧ FundS CE CF H p ea s ∧ Q (.int (rRate s z)) H
theorem ok_RR {n : Nat} {f : Addr} {fd : FuncData} (F : Fun K "rate_refusal" "rate_refusal" sRR f fd) (T : Txt K mg CE CF CR) (c_no_period_refusal : Cal P w K mg base "no_period_refusal" n ["fund"] (spNP CE CF)) :
    FnOk P w K mg base CX0 (n + 1) f fd ["fund", "rate"] (spRR CE CF) := by
  refine F.ok scRR (fun vs H Q E h => ?_) (fun cdv A outer s H vs Q E hr h => ?_)
  · obtain ⟨p, ea, s, z, rfl, _⟩ := h
    rfl
  · obtain ⟨p, ea, s, z, rfl, hF, kk⟩ := h
    refine ⟨_, (pss_cons (ps_if (pt_not (pt_chain op_le op_le pe_int (pv 1) (pe_const T.c_GREATEST_RATE rfl))) (pss_one (ps_ret (pe_const T.c_OUT_OF_RANGE rfl))) pss_nil)
        (pss_one (ps_ret (pe_cal c_no_period_refusal hr rfl (pa_cons (pv 0) pa_nil))))), ?_⟩
    have bad : inside z 0 10000000 = false → Q (.int (-1)) H := fun h => by
      have e : rRate s z = -1 := if_pos h
      rw [← e]
      exact kk
    refine ⟨_, rfl, _, _, rfl, rfl, _, rfl, ?_⟩
    refine iteD (fun h1 => ⟨_, _, rfl, rfl, _, rfl, iteNot (fun h2 => ?_) (fun h2 => ?_)⟩) (fun h1 => ⟨_, rfl, iteT ?_⟩)
    · refine bad ?_
      unfold Vbfuan.inside
      rw [h2, Bool.and_false]
    · have e : rRate s z = rNone s := if_neg fun h => by
        unfold Vbfuan.inside at h
        rw [h2, decide_eq_true h1] at h
        cases h
      rw [e] at kk
      exact ⟨_, rfl, p, ea, s, rfl, hF, kk⟩
    · refine bad ?_
      unfold Vbfuan.inside
      rw [decide_eq_false h1, Bool.false_and]
abbrev sMWR : Stmt := top 53
theorem scMWR : FnScope ["fund", "refusal"] ["fund"] (defScope sMWR) := ⟨rfl, rfl, rfl, by decide +kernel, rfl, by decide +kernel, by decide +kernel⟩
def rIrr (s : State) : Int := if count s = 0 then -9 else if 0 ≤ Vbfuan.leftOver s 0 ∨ Vbfuan.leftOver s Vbfuan.TOP < 0 then -9 else 0
def spMWR (CE CF : Addr) : Sp := fun vs H Q _ => ∃ (p ea : Addr) (s : State), vs = [.ref p] ∧ FundS CE CF H p ea s ∧ Good s ∧ Q (.int (rIrr s)) H
theorem ok_MWR {n : Nat} {f : Addr} {fd : FuncData} (F : Fun K "money_weighted_refusal" "money_weighted_refusal" sMWR f fd) (T : Txt K mg CE CF CR) (c_no_period_refusal : Cal P w K mg base "no_period_refusal" n ["fund"] (spNP CE CF)) (c_left_over : Cal P w K mg base "left_over" n ["fund", "rate"] (spLO CE CF)) :
    FnOk P w K mg base CX0 (n + 1) f fd ["fund"] (spMWR CE CF) := by
  refine F.ok scMWR (fun vs H Q E h => ?_) (fun cdv A outer s H vs Q E hr h => ?_)
  · obtain ⟨p, ea, s, rfl, _⟩ := h
    rfl
  · obtain ⟨p, ea, s, rfl, hF, hG, kk⟩ := h
    refine ⟨_, (pss_cons (ps_set (i := 1) scMWR.nd rfl (Or.inl rfl) (pe_cal c_no_period_refusal hr rfl (pa_cons (pv 0) pa_nil)))
        (pss_cons (ps_if (pt_cmpR op_ne (pv 1) (pe_const T.c_NOTHING_REFUSED rfl) (nomark _)) (pss_one (ps_ret (pv 1))) pss_nil)
        (pss_cons (ps_if (PW.pt (pw_or (pt_cmpR op_ge (pe_cal c_left_over hr rfl (pa_cons (pv 0) (pa_cons pe_int pa_nil))) pe_int (nomark _)) (pw_or1 (pt_cmpR op_lt (pe_cal c_left_over hr rfl (pa_cons (pv 0) (pa_cons (pe_const T.c_GREATEST_RATE rfl) pa_nil))) pe_int (nomark _))))) (pss_one (ps_ret (pe_const T.c_NOT_TO_BE_TOLD rfl))) pss_nil)
        (pss_one (ps_ret (pe_const T.c_NOTHING_REFUSED rfl)))))), ?_⟩
    refine ⟨_, rfl, p, ea, s, rfl, hF, ?_⟩
    refine ⟨_, rfl, rfl, _, rfl, iteNe (fun q => ?_) (fun q => ?_)⟩
    · have c0 : count s = 0 := Classical.byContradiction fun z => q (if_neg z)
      have e1 : rNone s = -9 := if_pos c0
      have e2 : rIrr s = -9 := if_pos c0
      rw [e2] at kk
      rw [e1]
      exact ⟨_, rfl, kk⟩
    · have c0 : ¬ count s = 0 := fun z => by
        unfold rNone at q
        rw [if_pos z] at q
        exact absurd q (by decide)
      have bad : (0 ≤ Vbfuan.leftOver s 0 ∨ Vbfuan.leftOver s Vbfuan.TOP < 0) → Q (.int (-9)) H := fun h => by
        have e : rIrr s = -9 := by
          unfold rIrr
          rw [if_neg c0, if_pos h]
        rw [← e]
        exact kk
      refine ⟨_, rfl, p, ea, s, 0, rfl, hF, hG, by omega, by decide, by decide, _, _, rfl, rfl, _, rfl, iteD (fun h1 => ?_) (fun h1 => ?_)⟩
      · exact iteT (bad (.inl h1))
      · refine ⟨_, rfl, p, ea, s, 10000000, rfl, hF, hG, by omega, by decide, by decide, _, _, rfl, rfl, _, rfl, iteD (fun h2 => ?_) (fun h2 => ?_)⟩
        · exact bad (.inr h2)
        · have e : rIrr s = 0 := by
            unfold rIrr
            rw [if_neg c0, if_neg]
            intro h
            rcases h with h | h
            · exact h1 h
            · exact h2 h
          rw [e] at kk
          exact kk
abbrev sMR : Stmt := top 49
theorem scMR : FnScope ["fund", "k", "part", "refusal"] ["fund", "k", "part"] (defScope sMR) := ⟨rfl, rfl, rfl, by decide +kernel, rfl, by decide +kernel, by decide +kernel⟩
def rMade (m n : Nat) (k i : Int) : Int := if inside i 1 m = false then -1 else if rEnds n [k] = 0 ∧ k = 0 then -6 else rEnds n [k]
def spMR (CE CF : Addr) : Sp := fun vs H Q _ => ∃ (p ea : Addr) (ws : List Int) (es : List EndV) (e : EndV) (k i : Int), vs = [.ref p, .int k, .int i] ∧ FundAt CE CF H p ea ws es ∧ es[0]? = some e ∧ Gives H (.int (rMade e.before.length es.length k i)) Q
theorem ok_MR {n : Nat} {f : Addr} {fd : FuncData} (F : Fun K "made_refusal" "made_refusal" sMR f fd) (T : Txt K mg CE CF CR) (c_part_refusal : Cal P w K mg base "part_refusal" n ["fund", "part"] (spPtR CE CF)) (c_ends_refusal : Cal P w K mg base "ends_refusal" n ["fund", "named"] (spER CE CF)) :
    FnOk P w K mg base CX0 (n + 1) f fd ["fund", "k", "part"] (spMR CE CF) := by
  refine F.ok scMR (fun vs H Q E h => ?_) (fun cdv A outer s H vs Q E hr h => ?_)
  · obtain ⟨p, ea, ws, es, e, k, i, rfl, _⟩ := h
    rfl
  · obtain ⟨p, ea, ws, es, e, k, i, rfl, hF, he, kk⟩ := h
    refine ⟨_, (pss_cons (ps_set (i := 3) scMR.nd rfl (Or.inl rfl) (pe_cal c_part_refusal hr rfl (pa_cons (pv 0) (pa_cons (pv 2) pa_nil))))
        (pss_cons (ps_if (pt_cmpR op_ne (pv 3) (pe_const T.c_NOTHING_REFUSED rfl) (nomark _)) (pss_one (ps_ret (pv 3))) pss_nil)
        (pss_cons (ps_set (i := 3) scMR.nd rfl (Or.inl rfl) (pe_cal c_ends_refusal hr rfl (pa_cons (pv 0) (pa_cons (pe_lst (pa_cons (pv 1) pa_nil)) pa_nil))))
        (pss_cons (ps_if (PW.pt (pw_and (pt_cmpR op_eq (pv 3) (pe_const T.c_NOTHING_REFUSED rfl) (nomark _)) (pw_and1 (pt_cmpR op_eq (pv 1) pe_int (nomark _))))) (pss_one (ps_ret (pe_const T.c_NOT_AS_TOLD rfl))) pss_nil)
        (pss_one (ps_ret (pv 3))))))), ?_⟩
    refine ⟨_, rfl, _, rfl, p, ea, ws, es, e, i, rfl, hF, he, ?_⟩
    refine ⟨_, rfl, rfl, _, rfl, iteNe (fun h1 => ?_) (fun h1 => ?_)⟩
    · obtain ⟨h2, h3⟩ := rPt_one h1
      have e' : rMade e.before.length es.length k i = -1 := if_pos h2
      rw [h3]
      refine ⟨_, rfl, ?_⟩
      rw [← e']
      exact kk H (Same.refl H)
    · have h2 := rPt_zero h1
      refine ⟨_, rfl, _, rfl, (by show 1 ≤ sizeLine; decide), fun l nl => ?_⟩
      have s1 : Same H (upd H l (.lst [V.int k])) := same_new nl
      refine ⟨p, ea, l, ws, es, [k], rfl, hF.same s1, upd_same, (by show 0 < 1; decide), (by show 1 ≤ 100000; decide), fun H' s' => ?_⟩
      have kk' := kk H' (s1.trans s')
      refine ⟨_, rfl, rfl, _, rfl, iteEq (fun h3 => ?_) (fun h3 => ?_)⟩
      · refine ⟨_, rfl, rfl, _, rfl, iteEq (fun h4 => ?_) (fun h4 => ?_)⟩
        · have e : rMade e.before.length es.length k i = -6 := by
            unfold rMade
            rw [if_neg h2, if_pos ⟨h3, h4⟩]
          rw [e] at kk'
          exact kk'
        · have e : rMade e.before.length es.length k i = rEnds es.length [k] := by
            unfold rMade
            rw [if_neg h2, if_neg fun z => h4 z.2]
          rw [e] at kk'
          exact ⟨_, rfl, kk'⟩
      · have e : rMade e.before.length es.length k i = rEnds es.length [k] := by
          unfold rMade
          rw [if_neg h2, if_neg fun z => h3 z.1]
        rw [e] at kk'
        exact iteF ⟨_, rfl, kk'⟩
abbrev sAR : Stmt := top 50
theorem scAR : FnScope ["fund", "j", "k", "refusal"] ["fund", "j", "k"] (defScope sAR) := ⟨rfl, rfl, rfl, by decide +kernel, rfl, by decide +kernel, by decide +kernel⟩
def rAvg (s : State) (j k : Int) : Int := if rSpan (count s + 1) j k ≠ 0 then rSpan (count s + 1) j k else if j = k then -6 else if Vbfuan.dietzDen s j.toNat k.toNat < 1 then -9 else 0
def spAR (CE CF : Addr) : Sp := fun vs H Q _ => ∃ (p ea : Addr) (s : State) (j k : Int), vs = [.ref p, .int j, .int k] ∧ FundS CE CF H p ea s ∧ Good s ∧ Gives H (.int (rAvg s j k)) Q
theorem ok_AR {n : Nat} {f : Addr} {fd : FuncData} (F : Fun K "averaged_refusal" "averaged_refusal" sAR f fd) (T : Txt K mg CE CF CR) (c_span_refusal : Cal P w K mg base "span_refusal" n ["fund", "j", "k"] (spSP CE CF)) (c_averaged_lower : Cal P w K mg base "averaged_lower" n ["fund", "j", "k"] (spAVL CE CF)) :
    FnOk P w K mg base CX0 (n + 1) f fd ["fund", "j", "k"] (spAR CE CF) := by
  refine F.ok scAR (fun vs H Q E h => ?_) (fun cdv A outer s H vs Q E hr h => ?_)
  · obtain ⟨p, ea, s, j, k, rfl, _⟩ := h
    rfl
  · obtain ⟨p, ea, s, j, k, rfl, hF, hG, kk⟩ := h
    refine ⟨_, (pss_cons (ps_set (i := 3) scAR.nd rfl (Or.inl rfl) (pe_cal c_span_refusal hr rfl (pa_cons (pv 0) (pa_cons (pv 1) (pa_cons (pv 2) pa_nil)))))
        (pss_cons (ps_if (pt_cmpR op_ne (pv 3) (pe_const T.c_NOTHING_REFUSED rfl) (nomark _)) (pss_one (ps_ret (pv 3))) pss_nil)
        (pss_cons (ps_if (pt_cmpR op_eq (pv 1) (pv 2) (nomark _)) (pss_one (ps_ret (pe_const T.c_NOT_AS_TOLD rfl))) pss_nil)
        (pss_cons (ps_if (pt_cmpR op_lt (pe_cal c_averaged_lower hr rfl (pa_cons (pv 0) (pa_cons (pv 1) (pa_cons (pv 2) pa_nil)))) pe_int (nomark _)) (pss_one (ps_ret (pe_const T.c_NOT_TO_BE_TOLD rfl))) pss_nil)
        (pss_one (ps_ret (pe_const T.c_NOTHING_REFUSED rfl))))))), ?_⟩
    refine ⟨_, rfl, _, rfl, _, rfl, p, ea, _, _, j, k, rfl, hF, fun H1 s1 => ?_⟩
    rw [endsOf_length]
    refine ⟨_, rfl, rfl, _, rfl, iteNe (fun q => ?_) (fun q => ?_)⟩
    · have e : rAvg s j k = rSpan (count s + 1) j k := if_pos q
      have kk' := kk H1 s1
      rw [e] at kk'
      exact ⟨_, rfl, kk'⟩
    · have q' : ¬ rSpan (count s + 1) j k ≠ 0 := fun z => z q
      obtain ⟨a, i, rfl, rfl, hi, hf⟩ := onEnds_good q
      refine ⟨_, rfl, _, rfl, rfl, _, rfl, iteEq (fun h1 => ?_) (fun h1 => ?_)⟩
      · have e : rAvg s (a : Int) ((a + i : Nat) : Int) = -6 := by
          unfold rAvg
          rw [if_neg q', if_pos h1]
        have kk' := kk H1 s1
        rw [e] at kk'
        exact kk'
      · obtain ⟨d, rfl⟩ : ∃ d, i = 1 + d := ⟨i - 1, by omega⟩
        rw [← Nat.add_assoc] at *
        refine ⟨_, rfl, _, rfl, _, rfl, p, ea, s, a, d, rfl, hF.same s1, hG, hi, fun H2 s2 => ?_⟩
        have kk' := kk H2 (s1.trans s2)
        refine ⟨_, _, rfl, rfl, _, rfl, iteD (fun h2 => ?_) (fun h2 => ?_)⟩
        · have e : rAvg s (a : Int) ((a + 1 + d : Nat) : Int) = -9 := by
            unfold rAvg
            rw [if_neg q', if_neg h1, Int.toNat_natCast, Int.toNat_natCast, if_pos h2]
          rw [e] at kk'
          exact kk'
        · have e : rAvg s (a : Int) ((a + 1 + d : Nat) : Int) = 0 := by
            unfold rAvg
            rw [if_neg q', if_neg h1, Int.toNat_natCast, Int.toNat_natCast, if_neg h2]
          rw [e] at kk'
          exact kk'
/-! #### compared -/
abbrev sCmp : Stmt := top 70
theorem scCmp : FnScope ["first", "second"] ["first", "second"] (defScope sCmp) := ⟨rfl, rfl, rfl, by decide +kernel, rfl, by decide +kernel, by decide +kernel⟩
def cmpI (a b : Int) : Int := if b < a then 1 else if a < b then 2 else 0
def spCmp : Sp := fun vs H Q _ => ∃ (a b : Int), vs = [.int a, .int b] ∧ Q (.int (cmpI a b)) H
theorem ok_Cmp {n : Nat} {f : Addr} {fd : FuncData} (F : Fun K "compared" "compared" sCmp f fd) (T : Txt K mg CE CF CR) :
    FnOk P w K mg base CX0 (n + 1) f fd ["first", "second"] spCmp := by
  refine F.ok scCmp (fun vs H Q E h => ?_) (fun cdv A outer s H vs Q E hr h => ?_)
  · obtain ⟨a, b, rfl, _⟩ := h
    rfl
  · obtain ⟨a, b, rfl, k⟩ := h
    refine ⟨_, (pss_cons (ps_if (pt_cmpR op_gt (pv 0) (pv 1) (nomark _)) (pss_one (ps_ret (pe_const T.c_GREATER rfl))) pss_nil)
        (pss_cons (ps_if (pt_cmpR op_lt (pv 0) (pv 1) (nomark _)) (pss_one (ps_ret (pe_const T.c_LESS rfl))) pss_nil)
        (pss_one (ps_ret (pe_const T.c_SAME rfl))))), ?_⟩
    unfold cmpI at k
    refine ⟨_, rfl, _, rfl, _, _, rfl, rfl, _, rfl, iteD (fun h1 => ?_) (fun h1 => ?_)⟩
    · rw [if_pos h1] at k
      exact k
    · rw [if_neg h1] at k
      refine ⟨_, rfl, _, rfl, _, _, rfl, rfl, _, rfl, iteD (fun h2 => ?_) (fun h2 => ?_)⟩
      · rw [if_pos h2] at k
        exact k
      · rw [if_neg h2] at k
        exact k
end
end FB
end
section
set_option maxRecDepth 100000
set_option maxHeartbeats 4000000
namespace FB
open PySem PySem.Spec PyProof.Rows L2
open Vbfuan (State count nsum isum inside onEnds told)
/-- a new fraction of this value, in least terms, is given back; all else stays -/
def GivesQ (H : Hp) (q : Rat) (Q : VK) : Prop := ∀ (H' : Hp) (t : Addr), Same H H' → H' t = some (.tup ((FM.qT q).map V.int)) → Q (.ref t) H'
theorem GivesQ.low {H : Hp} {a b : Int} {Q : VK} (k : GivesQ H (mkRat a b.toNat) Q) (hb : 0 < b) : GivesT H a b Q := fun H' t s' h => by
  rw [FM.qT_lowest hb] at h
  exact k H' t s' h
/-! ### how great the gaps may be -/
theorem Good.mx {s : State} (g : Good s) {k q : Nat} (h : k ≤ count s) : FM.mx s k q ≤ 2000000000000 := getD_le (g.ale (k - 1) (by omega))
theorem Good.mw {s : State} (g : Good s) {q : Nat} : FM.mw s q ≤ 1000000 := getD_le g.wle
theorem Good.mb {s : State} (g : Good s) {k q : Nat} (h1 : 1 ≤ k) (h2 : k ≤ count s) : FM.mb s k q ≤ 10000000 := getD_le (g.qle k h1 h2)
theorem Good.me {s : State} (g : Good s) {k q : Nat} (h : k ≤ count s) : FM.me s k q ≤ 1000000000000 := getD_le (g.ble k h)
theorem Good.su {s : State} (g : Good s) {k : Nat} (h : k ≤ count s) : 1 ≤ FM.su s k ∧ FM.su s k ≤ 12000000000000 := ⟨g.apos (k - 1) (by omega), g.asum (m := k - 1) (by omega)⟩
theorem Good.wg {s : State} (g : Good s) {k q : Nat} (h : k ≤ count s) : (FM.wgO s k q).natAbs ≤ 14000000000000000000 ∧ 0 < FM.wgU s k ∧ (FM.wgU s k).toNat ≤ 12000000000000000000 := by
  have b1 := g.mx (q := q) h
  have b2 := g.mw (q := q)
  obtain ⟨b3, b4⟩ := g.su h
  have b5 : FM.mw s q * FM.su s k ≤ 1000000 * 12000000000000 := Nat.mul_le_mul b2 b4
  have e : FM.wgO s k q = ((FM.mx s k q * 1000000 : Nat) : Int) - ((FM.mw s q * FM.su s k : Nat) : Int) := by
    unfold FM.wgO
    rw [Int.natCast_mul, Int.natCast_mul]
    rfl
  unfold FM.wgU
  rw [e]
  omega
theorem Good.wgR {s : State} (g : Good s) {k q : Nat} (h : k ≤ count s) : (FM.wgR s k q).num.natAbs < 2 ^ 64 ∧ (FM.wgR s k q).den < 2 ^ 64 := by
  obtain ⟨b1, b2, b3⟩ := g.wg (q := q) h
  have c1 := FM.mk_num_le (FM.wgO s k q) (FM.wgU s k).toNat
  have c2 := FM.mk_den_le (FM.wgO s k q) (b := (FM.wgU s k).toNat) (by omega)
  refine ⟨Nat.lt_of_le_of_lt (Nat.le_trans c1 b1) (by decide), Nat.lt_of_le_of_lt (Nat.le_trans c2 b3) (by decide)⟩
theorem bgR_den (s : State) (k q : Nat) : (FM.bgR s k q).den < 2 ^ 64 := Nat.lt_of_le_of_lt (FM.mk_den_le _ (by decide)) (by decide)
theorem Good.cgR {s : State} (g : Good s) {k q : Nat} (h : k ≤ count s) : (FM.cgR s k q).den < 2 ^ 64 := by
  unfold FM.cgR
  have b1 := g.mx (q := q) h
  by_cases z : FM.mx s k q = 0
  · rw [if_pos z]
    decide
  · rw [if_neg z]
    have e : (FM.cgU s k q).toNat = FM.mx s k q * 1000000 := FM.toNat_mil _
    have c := FM.mk_den_le (FM.cgO s k q) (b := (FM.cgU s k q).toNat) (by omega)
    have c2 : (mkRat (FM.cgO s k q) (FM.cgU s k q).toNat).den ≤ 2000000000000000000 := by omega
    exact Nat.lt_of_le_of_lt c2 (by decide)
theorem cmul_l {a c : Int} (h : a.natAbs < 2 ^ 64) : CMul a c := .inl (by omega)
theorem lim_mul {a b : Nat} (ha : a < 2 ^ 64) (hb : b < 2 ^ 64) : Lim ((a : Int) * (b : Int)) := by
  refine lim_of (n := 128) ?_ (by decide)
  rw [Int.natAbs_mul, Int.natAbs_natCast, Int.natAbs_natCast]
  exact Nat.le_trans (Nat.mul_le_mul (Nat.le_of_lt ha) (Nat.le_of_lt hb)) (by decide)
section
variable {P : Program} {w : World} {K : PySem.W.Frag} {mg : Str → Option Value} {base : Heap} {CE CF CR : Addr}
theorem blen_at {s : State} (g : Good s) {m q : Nat} (hm : m ≤ count s) (hq : q < s.first.length) : ((toZ (Vbfuan.before s m)).map V.int)[q]? = some (V.int ((Vbfuan.before s m).getD q 0 : Nat)) := toZ_at (by rw [g.blen m hm]; exact hq)
theorem alen_at {s : State} (g : Good s) {m q : Nat} (hm : m ≤ count s) (hq : q < s.first.length) : ((toZ (Vbfuan.after s m)).map V.int)[q]? = some (V.int ((Vbfuan.after s m).getD q 0 : Nat)) := toZ_at (by rw [g.alen m hm]; exact hq)
theorem qlen_at {s : State} (g : Good s) {m q : Nat} (h1 : 1 ≤ m) (hm : m ≤ count s) (hq : q < s.first.length) : ((toZ (Vbfuan.periodAt s m).bench).map V.int)[q]? = some (V.int ((Vbfuan.periodAt s m).bench.getD q 0 : Nat)) := toZ_at (by rw [g.qlen m h1 hm]; exact hq)
theorem wlen_at {s : State} (g : Good s) {q : Nat} (hq : q < s.first.length) : ((toZ s.weights).map V.int)[q]? = some (V.int (s.weights.getD q 0 : Nat)) := toZ_at (by rw [g.wlen]; exact hq)
/-! #### weight_gap, benchmark_gap, choice_gap -/
def spGap (CE CF : Addr) (R : State → Nat → Nat → Rat) : Sp := fun vs H Q _ => ∃ (p ea : Addr) (s : State) (k q : Nat) (z : Int), vs = [.ref p, .int k, .int z] ∧ z = (q : Int) ∧ FundS CE CF H p ea s ∧ Good s ∧ 1 ≤ k ∧ k ≤ count s ∧ q < s.first.length ∧ GivesQ H (R s k q) Q
abbrev sWG : Stmt := top 59
theorem scWG : FnScope ["fund", "k", "place", "behind", "whole"] ["fund", "k", "place"] (defScope sWG) := ⟨rfl, rfl, rfl, by decide +kernel, rfl, by decide +kernel, by decide +kernel⟩
theorem ok_WG {n : Nat} {f : Addr} {fd : FuncData} (F : Fun K "weight_gap" "weight_gap" sWG f fd) (T : Txt K mg CE CF CR) (c_least : Cal P w K mg base "least" n ["over", "under"] spLeast) :
    FnOk P w K mg base CX0 (n + 1) f fd ["fund", "k", "place"] (spGap CE CF FM.wgR) := by
  refine F.ok scWG (fun vs H Q E h => ?_) (fun cdv A outer s H vs Q E hr h => ?_)
  · obtain ⟨p, ea, s, k, q, z, rfl, _⟩ := h
    rfl
  · obtain ⟨p, ea, s, k, q, z, rfl, hz, hF, hG, hk1, hk2, hq, kk⟩ := h
    refine ⟨_, (pss_cons (ps_set (i := 3) scWG.nd rfl (Or.inl rfl) (pe_fld (pe_ix ix_list (pe_fld (pv 0) rfl) (pe_op op_sub (pv 1) pe_int) (fun _ _ => rfl)) rfl))
        (pss_cons (ps_set (i := 4) scWG.nd rfl (Or.inl rfl) (pe_callB (cr_sum rfl) (by rfl) T.nsum boot_sum (pa_cons (pv 3) pa_nil)))
        (pss_one (ps_ret (pe_cal c_least hr rfl (pa_cons (pe_op op_sub (pe_op op_mul (pe_ix ix_list (pv 3) (pv 2) (fun _ _ => rfl)) (pe_const T.c_MILLION rfl)) (pe_op op_mul (pe_ix ix_list (pe_fld (pv 0) rfl) (pv 2) (fun _ _ => rfl)) (pv 4))) (pa_cons (pe_op op_mul (pv 4) (pe_const T.c_MILLION rfl)) pa_nil))))))), ?_⟩
    obtain ⟨dx, wa, as, h1, h2, h3, hlen, hall⟩ := hF.all
    obtain ⟨a, dxe, b, hh, ff, e0, eE, e1, e2, e3, e4⟩ := hall (k - 1) (by omega)
    obtain ⟨w1, w2, w3⟩ := hG.wg (q := q) hk2
    have b2 := hG.mw (q := q)
    refine ⟨_, rfl, p, CF, dx, _, _, rfl, h1, T.clF, T.aF_ends, fundF_ends _ _, _, rfl, _, _, rfl, rfl, ea, _, _, _, rfl, rfl, SqL.of h3, at_of (j := k - 1) (by omega) e0, a, CE, dxe, _, _, rfl, e1, T.clE, T.aE_behind, endF_behind _ _ _ _, ?_⟩
    refine ⟨_, rfl, hh, _, rfl, SqL.of e3, ?_⟩
    rw [toZ_sum]
    refine ⟨_, rfl, _, rfl, hh, _, _, _, rfl, rfl, SqL.of e3, at_of hz (alen_at hG (by omega) hq), _, _, rfl, rfl, .inr (by decide), _, rfl, p, CF, dx, _, _, rfl, h1, T.clF, T.aF_weights, fundF_weights _ _, _, rfl, wa, _, _, _, rfl, rfl, SqL.of h2, at_of hz (wlen_at hG hq), _, rfl, _, _, rfl, rfl, .inl ?_, _, _, rfl, rfl, _, rfl, _, _, rfl, rfl, .inr (by decide), _, _, rfl, w2, lim_of (n := 64) ?_ (by decide), fun t nt => ?_⟩
    · have : s.weights.getD q 0 = FM.mw s q := rfl
      omega
    · show (FM.wgU s k).natAbs ≤ 2 ^ 64
      refine Nat.le_trans (m := 12000000000000000000) (by omega) (by decide)
    · exact kk.low w2 _ t (same_new nt) upd_same
abbrev sBG : Stmt := top 60
theorem scBG : FnScope ["fund", "k", "place", "factor"] ["fund", "k", "place"] (defScope sBG) := ⟨rfl, rfl, rfl, by decide +kernel, rfl, by decide +kernel, by decide +kernel⟩
theorem ok_BG {n : Nat} {f : Addr} {fd : FuncData} (F : Fun K "benchmark_gap" "benchmark_gap" sBG f fd) (T : Txt K mg CE CF CR) (c_least : Cal P w K mg base "least" n ["over", "under"] spLeast) (c_weighted_factors : Cal P w K mg base "weighted_factors" n ["fund", "k"] (spWF CE CF)) :
    FnOk P w K mg base CX0 (n + 1) f fd ["fund", "k", "place"] (spGap CE CF FM.bgR) := by
  refine F.ok scBG (fun vs H Q E h => ?_) (fun cdv A outer s H vs Q E hr h => ?_)
  · obtain ⟨p, ea, s, k, q, z, rfl, _⟩ := h
    rfl
  · obtain ⟨p, ea, s, k, q, z, rfl, hz, hF, hG, hk1, hk2, hq, kk⟩ := h
    refine ⟨_, (pss_cons (ps_set (i := 3) scBG.nd rfl (Or.inl rfl) (pe_ix ix_list (pe_fld (pe_ix ix_list (pe_fld (pv 0) rfl) (pv 1) (fun _ _ => rfl)) rfl) (pv 2) (fun _ _ => rfl)))
        (pss_one (ps_ret (pe_cal c_least hr rfl (pa_cons (pe_op op_sub (pe_op op_mul (pv 3) (pe_const T.c_MILLION rfl)) (pe_cal c_weighted_factors hr rfl (pa_cons (pv 0) (pa_cons (pv 1) pa_nil)))) (pa_cons (pe_op op_mul (pe_const T.c_MILLION rfl) (pe_const T.c_MILLION rfl)) pa_nil)))))), ?_⟩
    obtain ⟨dx, wa, as, h1, h2, h3, hlen, hall⟩ := hF.all
    obtain ⟨a, dxe, b, hh, ff, e0, eE, e1, e2, e3, e4⟩ := hall k hk2
    have e8 : (endOf s k).factors = toZ (Vbfuan.periodAt s k).bench := if_neg (by omega)
    rw [e8] at e4
    refine ⟨_, rfl, p, CF, dx, _, _, rfl, h1, T.clF, T.aF_ends, fundF_ends _ _, _, rfl, ea, _, _, _, rfl, rfl, SqL.of h3, atI_nat e0, a, CE, dxe, _, _, rfl, e1, T.clE, T.aE_factors, endF_factors _ _ _ _, _, rfl, ff, _, _, _, rfl, rfl, SqL.of e4, at_of hz (qlen_at hG hk1 hk2 hq), ?_⟩
    refine ⟨_, rfl, _, _, rfl, rfl, .inr (by decide), _, rfl, _, rfl, p, ea, s, k, rfl, hF, hG, hk1, hk2, fun H1 s1 => ?_⟩
    refine ⟨_, _, rfl, rfl, _, _, rfl, rfl, .inr (by decide), _, _, rfl, by decide, lim_of (n := 44) (by decide) (by decide), fun t nt => ?_⟩
    exact GivesQ.low (b := 1000000000000) (fun H' t s' h => kk H' t (s1.trans s') h) (by decide) _ t (same_new nt) upd_same
abbrev sCG : Stmt := top 61
theorem scCG : FnScope ["fund", "k", "place", "had", "end"] ["fund", "k", "place"] (defScope sCG) := ⟨rfl, rfl, rfl, by decide +kernel, rfl, by decide +kernel, by decide +kernel⟩
theorem ok_CG {n : Nat} {f : Addr} {fd : FuncData} (F : Fun K "choice_gap" "choice_gap" sCG f fd) (T : Txt K mg CE CF CR) (c_least : Cal P w K mg base "least" n ["over", "under"] spLeast) :
    FnOk P w K mg base CX0 (n + 1) f fd ["fund", "k", "place"] (spGap CE CF FM.cgR) := by
  refine F.ok scCG (fun vs H Q E h => ?_) (fun cdv A outer s H vs Q E hr h => ?_)
  · obtain ⟨p, ea, s, k, q, z, rfl, _⟩ := h
    rfl
  · obtain ⟨p, ea, s, k, q, z, rfl, hz, hF, hG, hk1, hk2, hq, kk⟩ := h
    refine ⟨_, (pss_cons (ps_set (i := 3) scCG.nd rfl (Or.inl rfl) (pe_ix ix_list (pe_fld (pe_ix ix_list (pe_fld (pv 0) rfl) (pe_op op_sub (pv 1) pe_int) (fun _ _ => rfl)) rfl) (pv 2) (fun _ _ => rfl)))
        (pss_cons (ps_if (pt_cmpR op_eq (pv 3) pe_int (nomark _)) (pss_one (ps_ret (pe_tup (pa_cons pe_int (pa_cons pe_int pa_nil))))) pss_nil)
        (pss_cons (ps_set (i := 4) scCG.nd rfl (Or.inl rfl) (pe_ix ix_list (pe_fld (pv 0) rfl) (pv 1) (fun _ _ => rfl)))
        (pss_one (ps_ret (pe_cal c_least hr rfl (pa_cons (pe_op op_sub (pe_op op_mul (pe_ix ix_list (pe_fld (pv 4) rfl) (pv 2) (fun _ _ => rfl)) (pe_const T.c_MILLION rfl)) (pe_op op_mul (pe_ix ix_list (pe_fld (pv 4) rfl) (pv 2) (fun _ _ => rfl)) (pv 3))) (pa_cons (pe_op op_mul (pv 3) (pe_const T.c_MILLION rfl)) pa_nil)))))))), ?_⟩
    obtain ⟨dx, wa, as, h1, h2, h3, hlen, hall⟩ := hF.all
    obtain ⟨a', dxe', b', hh', ff', d0, dE, d1, d2, d3, d4⟩ := hall (k - 1) (by omega)
    obtain ⟨a, dxe, b, hh, ff, e0, eE, e1, e2, e3, e4⟩ := hall k hk2
    have e8 : (endOf s k).factors = toZ (Vbfuan.periodAt s k).bench := if_neg (by omega)
    rw [e8] at e4
    have b1 := hG.mx (q := q) hk2
    refine ⟨_, rfl, p, CF, dx, _, _, rfl, h1, T.clF, T.aF_ends, fundF_ends _ _, _, rfl, _, _, rfl, rfl, ea, _, _, _, rfl, rfl, SqL.of h3, at_of (j := k - 1) (by omega) d0, a', CE, dxe', _, _, rfl, d1, T.clE, T.aE_behind, endF_behind _ _ _ _, _, rfl, hh', _, _, _, rfl, rfl, SqL.of d3, at_of hz (alen_at hG (by omega) hq), ?_⟩
    refine ⟨_, rfl, rfl, _, rfl, iteEq (fun h0 => ?_) (fun h0 => ?_)⟩
    · have h0' : FM.mx s k q = 0 := by
        have : FM.mx s k q = (Vbfuan.after s (k - 1)).getD q 0 := rfl
        omega
      have e : FM.cgR s k q = 0 := if_pos h0'
      refine ⟨(by show 2 ≤ sizeLine; decide), fun t nt => ?_⟩
      refine kk _ t (same_new nt) ?_
      rw [e]
      exact upd_same
    · have h0' : ¬ FM.mx s k q = 0 := by
        have : FM.mx s k q = (Vbfuan.after s (k - 1)).getD q 0 := rfl
        omega
      have e : FM.cgR s k q = mkRat (FM.cgO s k q) (FM.cgU s k q).toNat := if_neg h0'
      have cu : 0 < FM.cgU s k q ∧ FM.cgU s k q ≤ 2000000000000000000 := by
        unfold FM.cgU
        omega
      rw [e] at kk
      refine ⟨_, rfl, p, CF, dx, _, _, rfl, h1, T.clF, T.aF_ends, fundF_ends _ _, _, rfl, ea, _, _, _, rfl, rfl, SqL.of h3, atI_nat e0, ?_⟩
      refine ⟨_, rfl, a, CE, dxe, _, _, rfl, e1, T.clE, T.aE_before, endF_before _ _ _ _, _, rfl, b, _, _, _, rfl, rfl, SqL.of e2, at_of hz (blen_at hG hk2 hq), _, _, rfl, rfl, .inr (by decide), _, rfl, a, CE, dxe, _, _, rfl, e1, T.clE, T.aE_factors, endF_factors _ _ _ _, _, rfl, ff, _, _, _, rfl, rfl, SqL.of e4, at_of hz (qlen_at hG hk1 hk2 hq), _, rfl, _, _, rfl, rfl, .inr ?_, _, _, rfl, rfl, _, rfl, _, _, rfl, rfl, .inr (by decide), _, _, rfl, cu.1, lim_of (n := 64) ?_ (by decide), fun t nt => ?_⟩
      · have : FM.mx s k q = (Vbfuan.after s (k - 1)).getD q 0 := rfl
        omega
      · show (FM.cgU s k q).natAbs ≤ 2 ^ 64
        refine Nat.le_trans (m := 2000000000000000000) (by omega) (by decide)
      · exact kk.low cu.1 _ t (same_new nt) upd_same
/-! #### made_difference -/
abbrev sMD : Stmt := top 62
theorem scMD : FnScope ["fund", "k", "part", "place", "more", "better", "allocation", "selection"] ["fund", "k", "part"] (defScope sMD) := ⟨rfl, rfl, rfl, by decide +kernel, rfl, by decide +kernel, by decide +kernel⟩
def spMD (CE CF : Addr) : Sp := fun vs H Q _ => ∃ (p ea : Addr) (s : State) (k q : Nat), vs = [.ref p, .int k, .int (q + 1 : Nat)] ∧ FundS CE CF H p ea s ∧ Good s ∧ 1 ≤ k ∧ k ≤ count s ∧ q < s.first.length ∧
  ∀ (H' : Hp) (t a b c : Addr), Same H H' → H' t = some (.tup [.ref a, .ref b, .ref c]) → H' a = some (.tup ((FM.qT (FM.wgR s k q * FM.bgR s k q)).map V.int)) → H' b = some (.tup ((FM.qT (mkRat (FM.mw s q : Int) 1000000 * FM.cgR s k q)).map V.int)) → H' c = some (.tup ((FM.qT (FM.wgR s k q * FM.cgR s k q)).map V.int)) → Q (.ref t) H'
theorem den_pos (q : Rat) : (0 : Int) < (q.den : Int) := Int.natCast_pos.mpr q.den_pos
theorem ok_MD {n : Nat} {f : Addr} {fd : FuncData} (F : Fun K "made_difference" "made_difference" sMD f fd) (T : Txt K mg CE CF CR) (c_weight_gap : Cal P w K mg base "weight_gap" n ["fund", "k", "place"] (spGap CE CF FM.wgR)) (c_choice_gap : Cal P w K mg base "choice_gap" n ["fund", "k", "place"] (spGap CE CF FM.cgR)) (c_benchmark_gap : Cal P w K mg base "benchmark_gap" n ["fund", "k", "place"] (spGap CE CF FM.bgR)) (c_times : Cal P w K mg base "times" n ["first", "second"] spTm) :
    FnOk P w K mg base CX0 (n + 1) f fd ["fund", "k", "part"] (spMD CE CF) := by
  refine F.ok scMD (fun vs H Q E h => ?_) (fun cdv A outer s H vs Q E hr h => ?_)
  · obtain ⟨p, ea, s, k, q, rfl, _⟩ := h
    rfl
  · obtain ⟨p, ea, s, k, q, rfl, hF, hG, hk1, hk2, hq, kk⟩ := h
    refine ⟨_, (pss_cons (ps_set (i := 3) scMD.nd rfl (Or.inl rfl) (pe_op op_sub (pv 2) pe_int))
        (pss_cons (ps_set (i := 4) scMD.nd rfl (Or.inl rfl) (pe_cal c_weight_gap hr rfl (pa_cons (pv 0) (pa_cons (pv 1) (pa_cons (pv 3) pa_nil)))))
        (pss_cons (ps_set (i := 5) scMD.nd rfl (Or.inl rfl) (pe_cal c_choice_gap hr rfl (pa_cons (pv 0) (pa_cons (pv 1) (pa_cons (pv 3) pa_nil)))))
        (pss_cons (ps_set (i := 6) scMD.nd rfl (Or.inl rfl) (pe_cal c_times hr rfl (pa_cons (pv 4) (pa_cons (pe_cal c_benchmark_gap hr rfl (pa_cons (pv 0) (pa_cons (pv 1) (pa_cons (pv 3) pa_nil)))) pa_nil))))
        (pss_cons (ps_set (i := 7) scMD.nd rfl (Or.inl rfl) (pe_cal c_times hr rfl (pa_cons (pe_tup (pa_cons (pe_ix ix_list (pe_fld (pv 0) rfl) (pv 3) (fun _ _ => rfl)) (pa_cons (pe_const T.c_MILLION rfl) pa_nil))) (pa_cons (pv 5) pa_nil))))
        (pss_one (ps_ret (pe_tup (pa_cons (pv 6) (pa_cons (pv 7) (pa_cons (pe_cal c_times hr rfl (pa_cons (pv 4) (pa_cons (pv 5) pa_nil))) pa_nil))))))))))), ?_⟩
    obtain ⟨n1, n2⟩ := hG.wgR (q := q) hk2
    have n3 := bgR_den s k q
    have n4 := hG.cgR (q := q) hk2
    have n5 := hG.mw (q := q)
    obtain ⟨dx, wa, as, h1, h2, h3, hlen, hall⟩ := hF.all
    refine ⟨_, rfl, _, _, rfl, rfl, ?_⟩
    refine ⟨_, rfl, _, rfl, _, rfl, p, ea, s, k, q, _, rfl, by omega, hF, hG, hk1, hk2, hq, fun H1 t1 s1 ht1 => ?_⟩
    refine ⟨_, rfl, _, rfl, _, rfl, p, ea, s, k, q, _, rfl, by omega, hF.same s1, hG, hk1, hk2, hq, fun H2 t2 s2 ht2 => ?_⟩
    have s02 := s1.trans s2
    refine ⟨_, rfl, _, rfl, _, rfl, _, rfl, p, ea, s, k, q, _, rfl, by omega, hF.same s02, hG, hk1, hk2, hq, fun H3 t3 s3 ht3 => ?_⟩
    refine ⟨t1, t3, (FM.wgR s k q).num, (FM.wgR s k q).den, (FM.bgR s k q).num, (FM.bgR s k q).den, rfl, s3 _ _ (s2 _ _ ht1), ht3, den_pos _, den_pos _, cmul_l n1, cmul_l (by omega), lim_mul n2 n3, fun H4 t4 s4 ht4 => ?_⟩
    rw [FM.qT_mul] at ht4
    have s04 := (s02.trans s3).trans s4
    refine ⟨_, rfl, p, CF, dx, _, _, rfl, s04 _ _ h1, T.clF, T.aF_weights, fundF_weights _ _, _, rfl, wa, _, _, _, rfl, rfl, SqL.of (s04 _ _ h2), at_of (j := q) (by omega) (wlen_at hG hq), (by show 2 ≤ sizeLine; decide), fun t5 nt5 => ?_⟩
    have s5 := same_new (o := .tup [V.int (s.weights.getD q 0 : Nat), V.int 1000000]) nt5
    have ht2' := s4 _ _ (s3 _ _ ht2)
    refine ⟨_, rfl, t5, t2, (FM.mw s q : Int), 1000000, (FM.cgR s k q).num, (FM.cgR s k q).den, rfl, upd_same, s5 _ _ ht2', by decide, den_pos _, cmul_l (by omega), cmul_l (by decide), lim_mul (a := 1000000) (by decide) n4, fun H6 t6 s6 ht6 => ?_⟩
    rw [FM.qT_mulI _ (by decide)] at ht6
    have s46 := s5.trans s6
    refine ⟨_, rfl, _, rfl, _, rfl, _, rfl, t1, t2, (FM.wgR s k q).num, (FM.wgR s k q).den, (FM.cgR s k q).num, (FM.cgR s k q).den, rfl, s46 _ _ (s4 _ _ (s3 _ _ (s2 _ _ ht1))), s46 _ _ ht2', den_pos _, den_pos _, cmul_l n1, cmul_l (by omega), lim_mul n2 n4, fun H7 t7 s7 ht7 => ?_⟩
    rw [FM.qT_mul] at ht7
    refine ⟨(by show 3 ≤ sizeLine; decide), fun t nt => ?_⟩
    have s8 := same_new (o := .tup [V.ref t4, V.ref t6, V.ref t7]) nt
    exact kk _ t t4 t6 t7 (((s04.trans s46).trans s7).trans s8) upd_same (s8 _ _ (s7 _ _ (s46 _ _ ht4))) (s8 _ _ (s7 _ _ ht6)) (s8 _ _ ht7)
end
end FB
end
section
set_option maxRecDepth 100000
set_option maxHeartbeats 4000000
namespace FB
open PySem PySem.Spec PyProof.Rows L2
open Vbfuan (State count nsum isum inside)
theorem Good.so_le {s : State} (g : Good s) {j i : Nat} (h : j + i ≤ count s) : (FM.prodI (FM.so s) j i).natAbs ≤ 2 ^ 1056 := by
  have := g.cnt
  refine Nat.le_trans (prodI_le (B := 44) fun m a b => ?_) (Nat.pow_le_pow_right (by decide) (by omega))
  have h1 := g.bsum (m := m) (by omega)
  show ((nsum (Vbfuan.before s m) : Nat) : Int).natAbs ≤ _
  rw [Int.natAbs_natCast]
  exact Nat.le_trans h1 (by decide)
theorem Good.su_le {s : State} (g : Good s) {j i : Nat} (h : j + i ≤ count s) : (FM.prodI (fun m => (FM.su s m : Int)) j i).natAbs ≤ 2 ^ 1056 := by
  have := g.cnt
  refine Nat.le_trans (prodI_le (B := 44) fun m a b => ?_) (Nat.pow_le_pow_right (by decide) (by omega))
  have h1 := (g.su (k := m) (by omega)).2
  rw [Int.natAbs_natCast]
  exact Nat.le_trans h1 (by decide)
theorem lim1056 {x : Int} (h : x.natAbs ≤ 2 ^ 1056) : Lim x := lim_of h (by decide)
section
variable {P : Program} {w : World} {K : PySem.W.Frag} {mg : Str → Option Value} {base : Heap} {CE CF CR : Addr}
/-- each end's sum of one row, in order -/
def sums (s : State) (f : Nat → Nat) : List V := ((List.range (count s + 1)).map fun m => (f m : Int)).map V.int
theorem sums_len (s : State) (f : Nat → Nat) : (sums s f).length = count s + 1 := by
  unfold sums
  rw [List.length_map, List.length_map, List.length_range]
theorem sums_at {s : State} {f : Nat → Nat} {m : Nat} (h : m ≤ count s) : (sums s f)[m]? = some (V.int (f m : Int)) := by
  unfold sums
  rw [List.getElem?_map, List.getElem?_map, List.getElem?_range (by omega)]
  rfl
/-- the best so far, as the program holds it: over and under, not brought to least terms -/
structure Held (b : Nat × Nat × Rat) (fo fu : Int) : Prop where
  val : b.2.2 = mkRat fo fu.toNat
  pos : 0 < fu
  lo : fo.natAbs ≤ 2 ^ 1056
  lu : fu.natAbs ≤ 2 ^ 1056
theorem Held.lt {s : State} {b : Nat × Nat × Rat} {fo fu : Int} {j i : Nat} (h : Held b fo fu) (g : Good s) (hi : j + i ≤ count s) : FM.prodI (FM.so s) j i * fu < fo * FM.prodI (fun m => (FM.su s m : Int)) j i ↔ FM.lq s j i < b.2.2 := by
  have hp := (g.prod_su hi).1
  have hf := h.pos
  rw [h.val, FM.lq_mk, FM.mkRat_lt (by omega) (by omega), Int.toNat_of_nonneg (by omega), Int.toNat_of_nonneg (by omega)]
abbrev sGF : Stmt := top 64
theorem scGF : FnScope ["fund", "end", "before", "behind", "fall_from", "fall_to", "fall_over", "fall_under", "j", "over", "under", "k"] ["fund"] (defScope sGF) := ⟨rfl, rfl, rfl, by decide +kernel, rfl, by decide +kernel, by decide +kernel⟩
def spGF (CE CF : Addr) : Sp := fun vs H Q _ => ∃ (p ea : Addr) (s : State), vs = [.ref p] ∧ FundS CE CF H p ea s ∧ Good s ∧
  ∀ (H' : Hp) (t u : Addr), Same H H' → H' t = some (.tup [.int ((FM.outer s (count s + 1)).1 : Nat), .int ((FM.outer s (count s + 1)).2.1 : Nat), .ref u]) → H' u = some (.tup ((FM.qT (FM.outer s (count s + 1)).2.2).map V.int)) → Q (.ref t) H'
theorem ok_GF {n : Nat} {f : Addr} {fd : FuncData} (F : Fun K "greatest_fall" "greatest_fall" sGF f fd) (T : Txt K mg CE CF CR) (c_least : Cal P w K mg base "least" n ["over", "under"] spLeast) :
    FnOk P w K mg base CX0 (n + 1) f fd ["fund"] (spGF CE CF) := by
  refine F.ok scGF (fun vs H Q E h => ?_) (fun cdv A outer s H vs Q E hr h => ?_)
  · obtain ⟨p, ea, s, rfl, _⟩ := h
    rfl
  · obtain ⟨p, ea, s, rfl, hF, hG, kk⟩ := h
    refine ⟨_, (pss_cons (ps_setLc (i := 2) (own := [("end", 1)]) (g := gName 1) (te := tCB (rSum K) (tCons (tFld K (tVar 1) "before") tNil)) rfl scGF.nd rfl rfl (sw_true rfl rfl rfl rfl) (pi_list (pe_fld (pv 0) rfl)) (blkOk_by (N := ["fund", "end", "before", "behind", "fall_from", "fall_to", "fall_over", "fall_under", "j", "over", "under", "k"]) (sc := defScope sGF) (by decide +kernel)) (fun _ _ _ _ _ => (pg_name (i := 1) scGF.nd rfl (Or.inl rfl) (Or.inr rfl))) (fun _ _ _ _ _ => pts_nil) (fun _ _ _ _ _ => (pe_callB (cr_sum rfl) (by rfl) T.nsum boot_sum (pa_cons (pe_fld (pv 1) rfl) pa_nil))))
        (pss_cons (ps_setLc (i := 3) (own := [("end", 1)]) (g := gName 1) (te := tCB (rSum K) (tCons (tFld K (tVar 1) "behind") tNil)) rfl scGF.nd rfl rfl (sw_true rfl rfl rfl rfl) (pi_list (pe_fld (pv 0) rfl)) (blkOk_by (N := ["fund", "end", "before", "behind", "fall_from", "fall_to", "fall_over", "fall_under", "j", "over", "under", "k"]) (sc := defScope sGF) (by decide +kernel)) (fun _ _ _ _ _ => (pg_name (i := 1) scGF.nd rfl (Or.inl rfl) (Or.inr rfl))) (fun _ _ _ _ _ => pts_nil) (fun _ _ _ _ _ => (pe_callB (cr_sum rfl) (by rfl) T.nsum boot_sum (pa_cons (pe_fld (pv 1) rfl) pa_nil))))
        (pss_cons (ps_set (i := 4) scGF.nd rfl (Or.inl rfl) pe_int)
        (pss_cons (ps_set (i := 5) scGF.nd rfl (Or.inl rfl) pe_int)
        (pss_cons (ps_set (i := 6) scGF.nd rfl (Or.inl rfl) pe_int)
        (pss_cons (ps_set (i := 7) scGF.nd rfl (Or.inl rfl) pe_int)
        (pss_cons (ps_for PassesOwn.never rfl (pi_range1 (by rfl) T.nrange (pa_cons (pe_callB call_len_seq (by rfl) T.nlen PySem.boot_len (pa_cons (pe_fld (pv 0) rfl) pa_nil)) pa_nil)) (pg_name (i := 8) scGF.nd rfl (Or.inl rfl)) (pss_cons (ps_set (i := 9) scGF.nd rfl (Or.inl rfl) pe_int)
        (pss_cons (ps_set (i := 10) scGF.nd rfl (Or.inl rfl) pe_int)
        (pss_one (ps_for PassesOwn.never rfl (pi_range2 (by rfl) T.nrange (pa_cons (pe_op op_add (pv 8) pe_int) (pa_cons (pe_callB call_len_seq (by rfl) T.nlen PySem.boot_len (pa_cons (pe_fld (pv 0) rfl) pa_nil)) pa_nil))) (pg_name (i := 11) scGF.nd rfl (Or.inl rfl)) (pss_cons (ps_set (i := 9) scGF.nd rfl (Or.inl rfl) (pe_op op_mul (pv 9) (pe_ix ix_list (pv 2) (pv 11) (fun _ _ => rfl))))
        (pss_cons (ps_set (i := 10) scGF.nd rfl (Or.inl rfl) (pe_op op_mul (pv 10) (pe_ix ix_list (pv 3) (pe_op op_sub (pv 11) pe_int) (fun _ _ => rfl))))
        (pss_one (ps_if (pt_cmpR op_lt (pe_op op_mulL (pv 9) (pv 7)) (pe_op op_mulL (pv 6) (pv 10)) (nomark _)) (pss_cons (ps_set (i := 4) scGF.nd rfl (Or.inl rfl) (pv 8))
        (pss_cons (ps_set (i := 5) scGF.nd rfl (Or.inl rfl) (pv 11))
        (pss_cons (ps_set (i := 6) scGF.nd rfl (Or.inl rfl) (pv 9))
        (pss_one (ps_set (i := 7) scGF.nd rfl (Or.inl rfl) (pv 10)))))) pss_nil)))))))))
        (pss_one (ps_ret (pe_tup (pa_cons (pv 4) (pa_cons (pv 5) (pa_cons (pe_cal c_least hr rfl (pa_cons (pv 6) (pa_cons (pv 7) pa_nil))) pa_nil))))))))))))), ?_⟩
    have hc := hG.cnt
    have pos := hG.pos
    obtain ⟨dx, wa, as, h1, h2, h3, hlen, hall⟩ := hF.all
    have bigE : count s + 1 ≤ sizeLine := by
      have := small (n := 25) (by decide)
      omega
    refine ⟨_, rfl, p, CF, dx, _, _, rfl, h1, T.clF, T.aF_ends, fundF_ends _ _, ea, rfl, ⟨_, SqL.of h3⟩, fun D hD => ?_⟩
    refine lc_map (K := K) (xs := as.map V.ref) (sums s fun m => nsum (Vbfuan.before s m)) hD (SqL.of h3) (by rw [sums_len, hlen]) (by rw [sums_len]; exact bigE) ?_ ?_
    · intro t x y H' R E' hx hy s' hR
      have ht : t ≤ count s := by
        have := (List.getElem?_eq_some_iff.mp hx).1
        omega
      obtain ⟨a, dxe, b, hh, ff, e0, eE, e1, e2, e3, e4⟩ := hall t ht
      rw [e0] at hx
      have ex := Option.some.inj hx
      subst ex
      rw [sums_at ht] at hy
      have ey := Option.some.inj hy
      subst ey
      refine ⟨rfl, yesT ?_⟩
      refine ⟨_, rfl, a, CE, dxe, _, _, rfl, s' _ _ e1, T.clE, T.aE_before, endF_before _ _ _ _, b, _, rfl, SqL.of (s' _ _ e2), ?_⟩
      rw [toZ_sum]
      exact hR _ (Same.refl _)
    intro H1 s1 hB
    refine ⟨_, rfl, p, CF, dx, _, _, rfl, s1 _ _ h1, T.clF, T.aF_ends, fundF_ends _ _, ea, rfl, ⟨_, SqL.of (s1 _ _ h3)⟩, fun D2 hD2 => ?_⟩
    refine lc_map (K := K) (xs := as.map V.ref) (sums s fun m => nsum (Vbfuan.after s m)) hD2 (SqL.of (s1 _ _ h3)) (by rw [sums_len, hlen]) (by rw [sums_len]; exact bigE) ?_ ?_
    · intro t x y H' R E' hx hy s' hR
      have ht : t ≤ count s := by
        have := (List.getElem?_eq_some_iff.mp hx).1
        omega
      obtain ⟨a, dxe, b, hh, ff, e0, eE, e1, e2, e3, e4⟩ := hall t ht
      rw [e0] at hx
      have ex := Option.some.inj hx
      subst ex
      rw [sums_at ht] at hy
      have ey := Option.some.inj hy
      subst ey
      refine ⟨rfl, yesT ?_⟩
      refine ⟨_, rfl, a, CE, dxe, _, _, rfl, s' _ _ (s1 _ _ e1), T.clE, T.aE_behind, endF_behind _ _ _ _, hh, _, rfl, SqL.of (s' _ _ (s1 _ _ e3)), ?_⟩
      rw [toZ_sum]
      exact hR _ (Same.refl _)
    intro H2 s2 hA
    have hB2 := s2 _ _ hB
    have s02 := s1.trans s2
    have h1' := s02 _ _ h1
    have h3' := s02 _ _ h3
    refine ⟨_, rfl, p, CF, dx, _, _, rfl, h1', T.clF, T.aF_ends, fundF_ends _ _, ea, _, rfl, .inl (SqL.of h3'), _, rfl, (by rw [hlen]; omega), (by rw [hlen]; omega), ?_⟩
    have en : (((as.map V.ref).length : Nat) : Int).toNat = count s + 1 := by rw [hlen]; omega
    rw [en]
    refine for_range (fun j' σ H' => H' = H2 ∧ ∃ (fo fu : Int) (u v x y z : Option V), σ = [some (.ref p), u, some (.ref D), some (.ref D2), some (.int ((FM.outer s j').1 : Nat)), some (.int ((FM.outer s j').2.1 : Nat)), some (.int fo), some (.int fu), v, x, y, z] ∧ Held (FM.outer s j') fo fu) ⟨rfl, 1, 1, _, none, none, none, none, rfl, ?_⟩ ?_ ?_
    · exact ⟨rfl, by decide, by decide, by decide⟩
    · rintro j' σ H' hj ⟨rfl, fo, fu, u, v, x, y, z, rfl, hh0⟩
      have e1 : FM.inner s j' (FM.outer s j') 1 = FM.outer s j' := FM.inner_one (FM.outer_le s j')
      refine ⟨_, rfl, _, _, rfl, rfl, _, rfl, p, CF, dx, _, _, rfl, h1', T.clF, T.aF_ends, fundF_ends _ _, ea, _, rfl, .inl (SqL.of h3'), _, _, rfl, (by rw [hlen]; omega), ?_⟩
      have en2 : ((((as.map V.ref).length : Nat) : Int) - (0 + (j' : Int) + 1)).toNat = count s - j' := by rw [hlen]; omega
      rw [en2]
      refine for_range (fun i' σ H3 => H3 = H' ∧ ∃ (fo fu : Int) (u z : Option V), σ = [some (.ref p), u, some (.ref D), some (.ref D2), some (.int ((FM.inner s j' (FM.outer s j') (i' + 1)).1 : Nat)), some (.int ((FM.inner s j' (FM.outer s j') (i' + 1)).2.1 : Nat)), some (.int fo), some (.int fu), some (.int (0 + (j' : Int))), some (.int (FM.prodI (FM.so s) j' i')), some (.int (FM.prodI (fun m => (FM.su s m : Int)) j' i')), z] ∧ Held (FM.inner s j' (FM.outer s j') (i' + 1)) fo fu) ⟨rfl, fo, fu, u, z, ?_, ?_⟩ ?_ ?_
      · rw [FM.prodI_zero, FM.prodI_zero, e1]
        rfl
      · rw [e1]
        exact hh0
      · rintro i' σ H3 hi ⟨rfl, fo, fu, u, z, rfl, hh1⟩
        have q1 := hG.so_le (j := j') (i := i' + 1) (by omega)
        have q2 := hG.su_le (j := j') (i := i' + 1) (by omega)
        have q3 := (hG.prod_su (j := j') (i := i' + 1) (by omega)).1
        have lt := hh1.lt hG (j := j') (i := i' + 1) (by omega)
        rw [FM.prodI_succ, FM.prodI_succ] at lt
        rw [FM.prodI_succ] at q1 q2 q3
        have esu : FM.su s (j' + 1 + i') = nsum (Vbfuan.after s (j' + i')) := by unfold FM.su; rw [show j' + 1 + i' - 1 = j' + i' by omega]
        rw [esu] at lt q2 q3
        refine ⟨_, rfl, _, rfl, _, rfl, D, _, _, _, rfl, rfl, SqL.of hB2, at_of (j := j' + 1 + i') (by omega) (sums_at (by omega)), _, _, rfl, rfl, .inr ?_, ?_⟩
        · have := hG.bsum (m := j' + 1 + i') (by omega)
          omega
        refine ⟨_, rfl, _, rfl, _, rfl, _, _, rfl, rfl, D2, _, _, _, rfl, rfl, SqL.of hA, at_of (j := j' + i') (by omega) (sums_at (by omega)), _, _, rfl, rfl, .inr ?_, ?_⟩
        · have := hG.asum (m := j' + i') (by omega)
          omega
        refine ⟨_, rfl, _, rfl, _, _, rfl, rfl, ⟨lim1056 q1, lim1056 hh1.lu⟩, _, rfl, _, rfl, _, _, rfl, rfl, ⟨lim1056 hh1.lo, lim1056 q2⟩, _, _, rfl, rfl, _, rfl, iteD (fun hlt => ?_) (fun hlt => ?_)⟩
        · have e3 : FM.inner s j' (FM.outer s j') (i' + 1 + 1) = (j', j' + (i' + 1), FM.lq s j' (i' + 1)) := by
            rw [FM.inner_succ]
            exact if_pos (lt.mp hlt)
          refine ⟨_, rfl, _, rfl, _, rfl, _, rfl, rfl, FM.prodI (FM.so s) j' (i' + 1), FM.prodI (fun m => (FM.su s m : Int)) j' (i' + 1), u, some (.int (0 + (j' : Int) + 1 + (i' : Int))), ?_, ?_⟩
          · rw [e3, FM.prodI_succ, FM.prodI_succ, esu]
            show _ = [some (V.ref p), u, some (V.ref D), some (V.ref D2), some (V.int (j' : Int)), some (V.int ((j' + (i' + 1) : Nat) : Int)), _, _, _, _, _, _]
            rw [show V.int (j' : Int) = V.int (0 + (j' : Int)) by rw [Int.zero_add], show V.int ((j' + (i' + 1) : Nat) : Int) = V.int (0 + (j' : Int) + 1 + (i' : Int)) by congr 1; omega]
            rfl
          · rw [e3]
            refine ⟨FM.lq_mk s j' (i' + 1), ?_, ?_, ?_⟩
            · rw [FM.prodI_succ, esu]
              exact q3
            · rw [FM.prodI_succ]
              exact q1
            · rw [FM.prodI_succ, esu]
              exact q2
        · have e3 : FM.inner s j' (FM.outer s j') (i' + 1 + 1) = FM.inner s j' (FM.outer s j') (i' + 1) := by
            rw [FM.inner_succ]
            exact if_neg fun z => hlt (lt.mpr z)
          refine ⟨rfl, fo, fu, u, some (.int (0 + (j' : Int) + 1 + (i' : Int))), ?_, ?_⟩
          · rw [e3, FM.prodI_succ, FM.prodI_succ, esu]
            rfl
          · rw [e3]
            exact hh1
      · rintro σ H3 ⟨rfl, fo, fu, u, z, rfl, hh1⟩
        have e4 : FM.outer s (j' + 1) = FM.inner s j' (FM.outer s j') (count s - j' + 1) := by
          rw [FM.outer_succ, show count s + 1 - j' = count s - j' + 1 by omega]
        rw [← e4] at hh1 ⊢
        exact ⟨rfl, fo, fu, u, _, _, _, z, rfl, hh1⟩
    · rintro σ H' ⟨rfl, fo, fu, u, v, x, y, z, rfl, hh0⟩
      refine ⟨_, rfl, _, rfl, _, rfl, _, rfl, _, _, rfl, hh0.pos, lim1056 hh0.lu, fun t1 nt1 => ⟨(by show 3 ≤ sizeLine; decide), fun t nt => ?_⟩⟩
      refine kk _ t t1 ((s02.trans (same_new nt1)).trans (same_new nt)) upd_same ?_
      refine same_new nt _ _ ?_
      rw [upd_same, FM.qT_lowest hh0.pos, ← hh0.val]
end
end FB
end
section
set_option maxRecDepth 100000
set_option maxHeartbeats 4000000
namespace FB
open PySem PySem.Spec PyProof.Rows L2
open Vbfuan (State count nsum isum inside onEnds told)
theorem e0_before (s : State) : (endOf s 0).before.length = Vbfuan.parts s := by
  show (toZ _).length = _
  rw [toZ_length]
  rfl
section
variable {P : Program} {w : World} {K : PySem.W.Frag} {mg : Str → Option Value} {base : Heap} {CE CF CR : Addr}
/-! #### tell_beats -/
abbrev sTBt : Stmt := top 76
theorem scTBt : FnScope ["fund", "j", "k", "refusal", "own", "benchmark"] ["fund", "j", "k"] (defScope sTBt) := ⟨rfl, rfl, rfl, by decide +kernel, rfl, by decide +kernel, by decide +kernel⟩
def spTBt (CE CF : Addr) : Sp := fun vs H Q _ => ∃ (p : Addr) (j k : Int), vs = [.ref p, .int j, .int k] ∧ Tells CE CF H p (.beats j k) Q
theorem Good.bo_le {s : State} (g : Good s) {j i : Nat} (h : j + i ≤ count s) : (FM.prodI (FM.bo s) j i).natAbs ≤ 2 ^ 1104 := by
  have := g.cnt
  refine Nat.le_trans (prodI_le (B := 46) fun m a b => ?_) (Nat.pow_le_pow_right (by decide) (by omega))
  have h1 := g.bo (m := m) (by omega) (by omega)
  refine Nat.le_trans (m := 60000000000000) (by omega) (by decide)
theorem lim_div {a b : Int} (h : Lim a) : Lim (a / b) := h.le (Int.natAbs_ediv_le_natAbs _ _)
theorem less_cmp (f g : Vbfuan.Frac) : (if Vbfuan.less g f = true then (1 : Int) else if Vbfuan.less f g = true then 2 else 0) = cmpI (f.num * (g.den : Int)) (g.num * (f.den : Int)) := by
  unfold cmpI Vbfuan.less
  simp only [decide_eq_true_eq]
theorem ok_TBt {n : Nat} {f : Addr} {fd : FuncData} (F : Fun K "tell_beats" "tell_beats" sTBt f fd) (T : Txt K mg CE CF CR) (c_span_refusal : Cal P w K mg base "span_refusal" n ["fund", "j", "k"] (spSP CE CF)) (c_linked_factor : Cal P w K mg base "linked_factor" n ["fund", "j", "k"] (spLF CE CF)) (c_linked_benchmark : Cal P w K mg base "linked_benchmark" n ["fund", "j", "k"] (spLB CE CF)) (c_compared : Cal P w K mg base "compared" n ["first", "second"] spCmp) :
    FnOk P w K mg base CX0 (n + 1) f fd ["fund", "j", "k"] (spTBt CE CF) := by
  refine F.ok scTBt (fun vs H Q E h => ?_) (fun cdv A outer s H vs Q E hr h => ?_)
  · obtain ⟨p, j, k, rfl, _⟩ := h
    rfl
  · obtain ⟨p, j, k, rfl, ea, s, hF, hG, kk⟩ := h
    refine ⟨_, (pss_cons (ps_set (i := 3) scTBt.nd rfl (Or.inl rfl) (pe_cal c_span_refusal hr rfl (pa_cons (pv 0) (pa_cons (pv 1) (pa_cons (pv 2) pa_nil)))))
        (pss_cons (ps_if (pt_cmpR op_ne (pv 3) (pe_const T.c_NOTHING_REFUSED rfl) (nomark _)) (pss_one (ps_ret (pe_lst (pa_cons (pv 3) pa_nil)))) pss_nil)
        (pss_cons (ps_set (i := 4) scTBt.nd rfl (Or.inl rfl) (pe_cal c_linked_factor hr rfl (pa_cons (pv 0) (pa_cons (pv 1) (pa_cons (pv 2) pa_nil)))))
        (pss_cons (ps_set (i := 5) scTBt.nd rfl (Or.inl rfl) (pe_cal c_linked_benchmark hr rfl (pa_cons (pv 0) (pa_cons (pv 1) (pa_cons (pv 2) pa_nil)))))
        (pss_one (ps_ret (pe_lst (pa_cons (pe_cal c_compared hr rfl (pa_cons (pe_op op_mulL (pe_ix ix_tup (pv 4) pe_int (fun _ _ => rfl)) (pe_ix ix_tup (pv 5) pe_int (fun _ _ => rfl))) (pa_cons (pe_op op_mulL (pe_ix ix_tup (pv 5) pe_int (fun _ _ => rfl)) (pe_ix ix_tup (pv 4) pe_int (fun _ _ => rfl))) pa_nil))) pa_nil)))))))), ?_⟩
    refine ⟨_, rfl, _, rfl, _, rfl, p, ea, _, _, j, k, rfl, hF, fun H1 s1 => ?_⟩
    rw [endsOf_length]
    refine ⟨_, rfl, rfl, _, rfl, iteNe (fun q => ?_) (fun q => ?_)⟩
    · refine ⟨_, rfl, (by show 1 ≤ sizeLine; decide), fun l nl => ?_⟩
      refine kk _ l (s1.trans (same_new nl)) (Same.free s1 nl) ?_
      show LI _ _ (onEnds s j k _).2
      rw [onEnds_bad q]
      exact upd_same
    · obtain ⟨a, i, rfl, rfl, hi, hf⟩ := onEnds_good q
      refine ⟨_, rfl, _, rfl, _, rfl, p, ea, s, a, i, rfl, hF.same s1, hG, hi, fun H2 t s2 ht => ?_⟩
      refine ⟨_, rfl, _, rfl, _, rfl, p, ea, s, a, i, rfl, hF.same (s1.trans s2), hG, hi, fun H3 u s3 hu => ?_⟩
      have ht' := s3 _ _ ht
      have hc := hG.cnt
      obtain ⟨e1, e2⟩ := told_inj (FM.linked_told hG.pos hi)
      obtain ⟨e3, e4⟩ := told_inj (FM.benchLinked_told s a i)
      obtain ⟨q1, q2⟩ := hG.prod_su hi
      obtain ⟨q3, q4⟩ := prod_mil (j := a) (i := i) (by omega)
      have q5 := lim_of (hG.so_le hi) (by decide)
      have q6 := lim_of (hG.bo_le hi) (by decide)
      refine ⟨_, rfl, t, _, _, _, rfl, rfl, SqT.of ht', atI_nat (j := 0) rfl, _, rfl, u, _, _, _, rfl, rfl, SqT.of hu, atI_nat (j := 1) rfl, _, _, rfl, rfl, ⟨lim_div q5, lim_div q4⟩, _, rfl, u, _, _, _, rfl, rfl, SqT.of hu, atI_nat (j := 0) rfl, _, rfl, t, _, _, _, rfl, rfl, SqT.of ht', atI_nat (j := 1) rfl, _, _, rfl, rfl, ⟨lim_div q6, lim_div q2⟩, _, _, rfl, (by show 1 ≤ sizeLine; decide), fun l nl => ?_⟩
      refine kk _ l (((s1.trans s2).trans s3).trans (same_new nl)) (Same.free ((s1.trans s2).trans s3) nl) ?_
      show LI _ _ (onEnds s _ _ _).2
      rw [hf]
      show LI _ _ [if Vbfuan.less (Vbfuan.benchLinked s a (a + i)) (Vbfuan.linked s a (a + i)) = true then (1 : Int) else if Vbfuan.less (Vbfuan.linked s a (a + i)) (Vbfuan.benchLinked s a (a + i)) = true then 2 else 0]
      rw [less_cmp, e1, e2, e3, e4]
      exact upd_same
/-! #### tell_made -/
abbrev sTM : Stmt := top 77
theorem scTM : FnScope ["fund", "k", "part", "refusal", "told", "fraction"] ["fund", "k", "part"] (defScope sTM) := ⟨rfl, rfl, rfl, by decide +kernel, rfl, by decide +kernel, by decide +kernel⟩
def spTM (CE CF : Addr) : Sp := fun vs H Q _ => ∃ (p : Addr) (k i : Int), vs = [.ref p, .int k, .int i] ∧ Tells CE CF H p (.made k i) Q
theorem step_made (s : State) (k i : Int) : Vbfuan.step s (.made k i) = if inside i 1 (Vbfuan.parts s : Int) = false then Vbfuan.no s 1 else onEnds s k k fun _ m => if m = 0 then Vbfuan.no s 6 else Vbfuan.yes s (0 :: (told (Vbfuan.made s m i.toNat).allocation ++ (told (Vbfuan.made s m i.toNat).selection ++ told (Vbfuan.made s m i.toNat).both))) := rfl
theorem made_bad {s : State} {k i : Int} (h : rMade (Vbfuan.parts s) (count s + 1) k i ≠ 0) : (Vbfuan.step s (.made k i)).2 = [rMade (Vbfuan.parts s) (count s + 1) k i] := by
  rw [step_made]
  unfold rMade at *
  by_cases h1 : inside i 1 (Vbfuan.parts s : Int) = false
  · rw [if_pos h1, if_pos h1]
    rfl
  · rw [if_neg h1] at h
    rw [if_neg h1, if_neg h1]
    by_cases h2 : rSpan (count s + 1) k k = 0
    · have h3 : rEnds (count s + 1) [k] = 0 := by rw [← span_one]; exact h2
      obtain ⟨a, j, ea, ek, hj, hf⟩ := onEnds_good h2
      by_cases h4 : k = 0
      · rw [if_pos ⟨h3, h4⟩, hf]
        have : a + j = 0 := by omega
        rw [this]
        rfl
      · rw [if_neg fun z => h4 z.2] at h
        exact absurd h3 h
    · have h3 : ¬ rEnds (count s + 1) [k] = 0 := by rw [← span_one]; exact h2
      rw [if_neg fun z => h3 z.1, onEnds_bad h2, span_one]
theorem made_good {s : State} {k i : Int} (h : rMade (Vbfuan.parts s) (count s + 1) k i = 0) : ∃ a r : Nat, k = (a : Int) ∧ i = ((r + 1 : Nat) : Int) ∧ 1 ≤ a ∧ a ≤ count s ∧ r < s.first.length ∧
    (Vbfuan.step s (.made k i)).2 = 0 :: (told (Vbfuan.made s a (r + 1)).allocation ++ (told (Vbfuan.made s a (r + 1)).selection ++ told (Vbfuan.made s a (r + 1)).both)) := by
  rw [step_made]
  unfold rMade at h
  by_cases h1 : inside i 1 (Vbfuan.parts s : Int) = false
  · rw [if_pos h1] at h
    exact absurd h (by decide)
  · rw [if_neg h1] at h
    rw [if_neg h1]
    have hp : 1 ≤ i ∧ i ≤ (Vbfuan.parts s : Int) := Classical.byContradiction fun z => h1 (inside_not.mpr z)
    have pl : Vbfuan.parts s = s.first.length := rfl
    by_cases h2 : rEnds (count s + 1) [k] = 0 ∧ k = 0
    · rw [if_pos h2] at h
      exact absurd h (by decide)
    · rw [if_neg h2] at h
      have h3 : rSpan (count s + 1) k k = 0 := by rw [span_one]; exact h
      obtain ⟨a, j, ea, ek, hj, hf⟩ := onEnds_good h3
      have k0 : ¬ k = 0 := fun z => h2 ⟨h, z⟩
      have j0 : j = 0 := by omega
      subst j0
      refine ⟨a, (i - 1).toNat, ea, by omega, by omega, hj, by omega, ?_⟩
      rw [hf, if_neg (by omega), show i.toNat = (i - 1).toNat + 1 by omega]
      rfl
theorem flat_snoc {L : List (List Int)} {q : List Int} {i : Nat} (h : L[i]? = some q) : (L.take (i + 1)).flatten = (L.take i).flatten ++ q := by
  rw [take_snoc h, List.flatten_append, List.flatten_singleton]
theorem ok_TM {n : Nat} {f : Addr} {fd : FuncData} (F : Fun K "tell_made" "tell_made" sTM f fd) (T : Txt K mg CE CF CR) (c_made_refusal : Cal P w K mg base "made_refusal" n ["fund", "k", "part"] (spMR CE CF)) (c_made_difference : Cal P w K mg base "made_difference" n ["fund", "k", "part"] (spMD CE CF)) :
    FnOk P w K mg base CX0 (n + 1) f fd ["fund", "k", "part"] (spTM CE CF) := by
  refine F.ok scTM (fun vs H Q E h => ?_) (fun cdv A outer s H vs Q E hr h => ?_)
  · obtain ⟨p, k, i, rfl, _⟩ := h
    rfl
  · obtain ⟨p, k, i, rfl, ea, s, hF, hG, kk⟩ := h
    refine ⟨_, (pss_cons (ps_set (i := 3) scTM.nd rfl (Or.inl rfl) (pe_cal c_made_refusal hr rfl (pa_cons (pv 0) (pa_cons (pv 1) (pa_cons (pv 2) pa_nil)))))
        (pss_cons (ps_if (pt_cmpR op_ne (pv 3) (pe_const T.c_NOTHING_REFUSED rfl) (nomark _)) (pss_one (ps_ret (pe_lst (pa_cons (pv 3) pa_nil)))) pss_nil)
        (pss_cons (ps_set (i := 4) scTM.nd rfl (Or.inl rfl) (pe_lst (pa_cons pe_int pa_nil)))
        (pss_cons (ps_for PassesOwn.never rfl (pi_tup (pe_cal c_made_difference hr rfl (pa_cons (pv 0) (pa_cons (pv 1) (pa_cons (pv 2) pa_nil))))) (pg_name (i := 5) scTM.nd rfl (Or.inl rfl)) (pss_one (ps_expr (pe_bm PySem.F.plainAttrs_list PySem.F.slot_list_extend PySem.F.type_list_extend mt_extendT (pv 4) (pa_cons (pv 5) pa_nil)))))
        (pss_one (ps_ret (pv 4))))))), ?_⟩
    refine ⟨_, rfl, _, rfl, _, rfl, p, ea, _, _, _, k, i, rfl, hF, endsOf_at (Nat.zero_le _), fun H1 s1 => ?_⟩
    rw [endsOf_length, e0_before]
    refine ⟨_, rfl, rfl, _, rfl, iteNe (fun q => ?_) (fun q => ?_)⟩
    · refine ⟨_, rfl, (by show 1 ≤ sizeLine; decide), fun l nl => ?_⟩
      refine kk _ l (s1.trans (same_new nl)) (Same.free s1 nl) ?_
      rw [made_bad q]
      exact upd_same
    · obtain ⟨a, r, rfl, rfl, ha1, ha2, hr', hans⟩ := made_good q
      rw [hans] at kk
      refine ⟨(by show 1 ≤ sizeLine; decide), fun l nl => ?_⟩
      have s2 := s1.trans (same_new (o := .lst [V.int 0]) nl)
      have fl : H l = Option.none := Same.free s1 nl
      refine ⟨_, rfl, _, rfl, _, rfl, p, ea, s, a, r, rfl, hF.same s2, hG, ha1, ha2, hr', fun H3 t x y z s3 ht hx hy hz => ?_⟩
      obtain ⟨m1, m2, m3⟩ := FM.made_eq (s := s) (k := a) (p := r) (by have := (hG.su (k := a) ha2).1; omega)
      have s03 := s2.trans s3
      refine ⟨t, rfl, ⟨_, SqT.of ht⟩, ?_⟩
      let L : List (List Int) := [FM.qT (FM.wgR s a r * FM.bgR s a r), FM.qT (mkRat (FM.mw s r : Int) 1000000 * FM.cgR s a r), FM.qT (FM.wgR s a r * FM.cgR s a r)]
      refine for_tup (K := K) (xs := ([x, y, z] : List Addr).map V.ref) (fun i' σ H' => Same H H' ∧ (∃ v : Option V, σ = [some (.ref p), some (.int a), some (.int (r + 1 : Nat)), some (.int (rMade (Vbfuan.parts s) (count s + 1) a (r + 1 : Nat))), some (.ref l), v]) ∧ H' l = some (.lst ((0 :: (L.take i').flatten).map V.int)) ∧ H' t = some (.tup (([x, y, z] : List Addr).map V.ref)) ∧ ∀ (m : Nat) (u : Addr) (g : List Int), ([x, y, z] : List Addr)[m]? = some u → L[m]? = some g → H' u = some (.tup (g.map V.int))) ⟨s03, ⟨_, rfl⟩, s3 _ _ upd_same, ht, ?_⟩ (fun _ _ _ _ h => SqT.of h.2.2.2.1) ?_ ?_
      · intro m u g h1 h2
        match m with
        | 0 => obtain rfl := Option.some.inj h1; obtain rfl := Option.some.inj h2; exact hx
        | 1 => obtain rfl := Option.some.inj h1; obtain rfl := Option.some.inj h2; exact hy
        | 2 => obtain rfl := Option.some.inj h1; obtain rfl := Option.some.inj h2; exact hz
        | m + 3 => cases h1
      · rintro i' xv σ H' hxv ⟨s', ⟨v, rfl⟩, hl, ht', hall⟩
        obtain ⟨u, hu, rfl⟩ := get_map hxv
        have hi' : i' < 3 := (List.getElem?_eq_some_iff.mp hu).1
        have hL : L[i']? = some (L[i']'hi') := List.getElem?_eq_getElem hi'
        have hut := hall i' u _ hu hL
        have lens : (L.take i').flatten.length + (L[i']'hi').length ≤ 100 := by
          match i' with
          | 0 => exact (by decide : 0 + 2 ≤ 100)
          | 1 => exact (by decide : 2 + 2 ≤ 100)
          | 2 => exact (by decide : 4 + 2 ≤ 100)
          | i' + 3 => omega
        have big := small (n := 101) (by decide)
        refine ⟨_, rfl, .inl ⟨rfl, _, SqL.of hl⟩, _, rfl, l, u, _, _, rfl, rfl, hl, hut, (by rw [List.length_map, List.length_map, List.length_cons]; omega), ?_⟩
        have nl' : ∀ {c : Addr} {ts : List V}, H' c = some (.tup ts) → c ≠ l := fun h => ne_of h hl (by intro z; cases z)
        refine ⟨fun c o e => ?_, ⟨_, rfl⟩, ?_, ?_, fun m u' g h1 h2 => ?_⟩
        · rw [upd_ne (ne_of_none e fl)]
          exact s' _ _ e
        · rw [upd_same, flat_snoc hL, ← List.map_append]
          rfl
        · rw [upd_ne (nl' ht')]
          exact ht'
        · have h3 := hall m u' g h1 h2
          rw [upd_ne (nl' h3)]
          exact h3
      · rintro σ H' ⟨s', ⟨v, rfl⟩, hl, ht', hall⟩
        refine ⟨_, rfl, ?_⟩
        refine kk H' l s' fl ?_
        rw [m1, m2, m3]
        exact hl
/-! #### tell_irr, tell_sign -/
abbrev sTI : Stmt := top 78
theorem scTI : FnScope ["fund", "refusal"] ["fund"] (defScope sTI) := ⟨rfl, rfl, rfl, by decide +kernel, rfl, by decide +kernel, by decide +kernel⟩
def spTI (CE CF : Addr) : Sp := fun vs H Q _ => ∃ (p : Addr), vs = [.ref p] ∧ Tells CE CF H p .irr Q
theorem step_irr (s : State) : Vbfuan.step s .irr = if count s = 0 then Vbfuan.no s 9 else if 0 ≤ Vbfuan.leftOver s 0 ∨ Vbfuan.leftOver s Vbfuan.TOP < 0 then Vbfuan.no s 9 else Vbfuan.yes s [(Vbfuan.halved s 24 0 Vbfuan.TOP : Nat)] := rfl
theorem irr_bad {s : State} (h : rIrr s ≠ 0) : (Vbfuan.step s .irr).2 = [rIrr s] := by
  rw [step_irr]
  unfold rIrr at *
  by_cases h1 : count s = 0
  · rw [if_pos h1, if_pos h1]
    rfl
  · rw [if_neg h1] at h
    rw [if_neg h1, if_neg h1]
    by_cases h2 : 0 ≤ Vbfuan.leftOver s 0 ∨ Vbfuan.leftOver s Vbfuan.TOP < 0
    · rw [if_pos h2, if_pos h2]
      rfl
    · rw [if_neg h2] at h
      exact absurd rfl h
theorem irr_good {s : State} (h : rIrr s = 0) : 1 ≤ count s ∧ (Vbfuan.step s .irr).2 = [((Vbfuan.halved s 24 0 Vbfuan.TOP : Nat) : Int)] := by
  rw [step_irr]
  unfold rIrr at h
  by_cases h1 : count s = 0
  · rw [if_pos h1] at h
    exact absurd h (by decide)
  · rw [if_neg h1] at h
    rw [if_neg h1]
    by_cases h2 : 0 ≤ Vbfuan.leftOver s 0 ∨ Vbfuan.leftOver s Vbfuan.TOP < 0
    · rw [if_pos h2] at h
      exact absurd h (by decide)
    · rw [if_neg h2]
      exact ⟨by omega, rfl⟩
theorem ok_TI {n : Nat} {f : Addr} {fd : FuncData} (F : Fun K "tell_irr" "tell_irr" sTI f fd) (T : Txt K mg CE CF CR) (c_money_weighted_refusal : Cal P w K mg base "money_weighted_refusal" n ["fund"] (spMWR CE CF)) (c_money_weighted : Cal P w K mg base "money_weighted" n ["fund"] (spMW CE CF)) :
    FnOk P w K mg base CX0 (n + 1) f fd ["fund"] (spTI CE CF) := by
  refine F.ok scTI (fun vs H Q E h => ?_) (fun cdv A outer s H vs Q E hr h => ?_)
  · obtain ⟨p, rfl, _⟩ := h
    rfl
  · obtain ⟨p, rfl, ea, s, hF, hG, kk⟩ := h
    refine ⟨_, (pss_cons (ps_set (i := 1) scTI.nd rfl (Or.inl rfl) (pe_cal c_money_weighted_refusal hr rfl (pa_cons (pv 0) pa_nil)))
        (pss_cons (ps_if (pt_cmpR op_ne (pv 1) (pe_const T.c_NOTHING_REFUSED rfl) (nomark _)) (pss_one (ps_ret (pe_lst (pa_cons (pv 1) pa_nil)))) pss_nil)
        (pss_one (ps_ret (pe_lst (pa_cons (pe_cal c_money_weighted hr rfl (pa_cons (pv 0) pa_nil)) pa_nil)))))), ?_⟩
    refine ⟨_, rfl, p, ea, s, rfl, hF, hG, ?_⟩
    refine ⟨_, rfl, rfl, _, rfl, iteNe (fun q => ?_) (fun q => ?_)⟩
    · refine ⟨_, rfl, (by show 1 ≤ sizeLine; decide), fun l nl => ?_⟩
      refine kk _ l (same_new nl) nl ?_
      rw [irr_bad q]
      exact upd_same
    · obtain ⟨hc, e⟩ := irr_good q
      refine ⟨_, rfl, p, ea, s, rfl, hF, hG, hc, (by show 1 ≤ sizeLine; decide), fun l nl => ?_⟩
      refine kk _ l (same_new nl) nl ?_
      rw [e]
      exact upd_same
abbrev sTSg : Stmt := top 79
theorem scTSg : FnScope ["fund", "rate", "refusal"] ["fund", "rate"] (defScope sTSg) := ⟨rfl, rfl, rfl, by decide +kernel, rfl, by decide +kernel, by decide +kernel⟩
def spTSg (CE CF : Addr) : Sp := fun vs H Q _ => ∃ (p : Addr) (z : Int), vs = [.ref p, .int z] ∧ Tells CE CF H p (.sign z) Q
theorem step_sign (s : State) (z : Int) : Vbfuan.step s (.sign z) = if inside z 0 10000000 = false then Vbfuan.no s 1 else if count s = 0 then Vbfuan.no s 9 else Vbfuan.yes s [if 0 < Vbfuan.leftOver s z.toNat then 1 else if Vbfuan.leftOver s z.toNat < 0 then 2 else 0] := rfl
theorem sign_bad {s : State} {z : Int} (h : rRate s z ≠ 0) : (Vbfuan.step s (.sign z)).2 = [rRate s z] := by
  rw [step_sign]
  unfold rRate rNone at *
  by_cases h1 : inside z 0 10000000 = false
  · rw [if_pos h1, if_pos h1]
    rfl
  · rw [if_neg h1] at h
    rw [if_neg h1, if_neg h1]
    by_cases h2 : count s = 0
    · rw [if_pos h2, if_pos h2]
      rfl
    · rw [if_neg h2] at h
      exact absurd rfl h
theorem sign_good {s : State} {z : Int} (h : rRate s z = 0) : 1 ≤ count s ∧ 0 ≤ z ∧ z ≤ 10000000 ∧ (Vbfuan.step s (.sign z)).2 = [cmpI (Vbfuan.leftOver s z.toNat) 0] := by
  rw [step_sign]
  unfold rRate rNone at h
  by_cases h1 : inside z 0 10000000 = false
  · rw [if_pos h1] at h
    exact absurd h (by decide)
  · rw [if_neg h1] at h
    rw [if_neg h1]
    have hz : 0 ≤ z ∧ z ≤ 10000000 := Classical.byContradiction fun q => h1 (inside_not.mpr q)
    by_cases h2 : count s = 0
    · rw [if_pos h2] at h
      exact absurd h (by decide)
    · rw [if_neg h2]
      exact ⟨by omega, hz.1, hz.2, rfl⟩
theorem ok_TSg {n : Nat} {f : Addr} {fd : FuncData} (F : Fun K "tell_sign" "tell_sign" sTSg f fd) (T : Txt K mg CE CF CR) (c_rate_refusal : Cal P w K mg base "rate_refusal" n ["fund", "rate"] (spRR CE CF)) (c_left_over : Cal P w K mg base "left_over" n ["fund", "rate"] (spLO CE CF)) (c_compared : Cal P w K mg base "compared" n ["first", "second"] spCmp) :
    FnOk P w K mg base CX0 (n + 1) f fd ["fund", "rate"] (spTSg CE CF) := by
  refine F.ok scTSg (fun vs H Q E h => ?_) (fun cdv A outer s H vs Q E hr h => ?_)
  · obtain ⟨p, z, rfl, _⟩ := h
    rfl
  · obtain ⟨p, z, rfl, ea, s, hF, hG, kk⟩ := h
    refine ⟨_, (pss_cons (ps_set (i := 2) scTSg.nd rfl (Or.inl rfl) (pe_cal c_rate_refusal hr rfl (pa_cons (pv 0) (pa_cons (pv 1) pa_nil))))
        (pss_cons (ps_if (pt_cmpR op_ne (pv 2) (pe_const T.c_NOTHING_REFUSED rfl) (nomark _)) (pss_one (ps_ret (pe_lst (pa_cons (pv 2) pa_nil)))) pss_nil)
        (pss_one (ps_ret (pe_lst (pa_cons (pe_cal c_compared hr rfl (pa_cons (pe_cal c_left_over hr rfl (pa_cons (pv 0) (pa_cons (pv 1) pa_nil))) (pa_cons pe_int pa_nil))) pa_nil)))))), ?_⟩
    refine ⟨_, rfl, _, rfl, p, ea, s, z, rfl, hF, ?_⟩
    refine ⟨_, rfl, rfl, _, rfl, iteNe (fun q => ?_) (fun q => ?_)⟩
    · refine ⟨_, rfl, (by show 1 ≤ sizeLine; decide), fun l nl => ?_⟩
      refine kk _ l (same_new nl) nl ?_
      rw [sign_bad q]
      exact upd_same
    · obtain ⟨hc, hz0, hz1, e⟩ := sign_good q
      refine ⟨_, rfl, _, rfl, p, ea, s, z, rfl, hF, hG, hc, hz0, hz1, _, _, rfl, (by show 1 ≤ sizeLine; decide), fun l nl => ?_⟩
      refine kk _ l (same_new nl) nl ?_
      rw [e]
      exact upd_same
/-! #### tell_fall -/
abbrev sTF : Stmt := top 80
theorem scTF : FnScope ["fund", "fall"] ["fund"] (defScope sTF) := ⟨rfl, rfl, rfl, by decide +kernel, rfl, by decide +kernel, by decide +kernel⟩
def spTF (CE CF : Addr) : Sp := fun vs H Q _ => ∃ (p : Addr), vs = [.ref p] ∧ Tells CE CF H p .fall Q
theorem step_fall (s : State) : (Vbfuan.step s .fall).2 = ((Vbfuan.fall s).1 : Int) :: ((Vbfuan.fall s).2.1 : Int) :: told (Vbfuan.fall s).2.2 := rfl
theorem ok_TF {n : Nat} {f : Addr} {fd : FuncData} (F : Fun K "tell_fall" "tell_fall" sTF f fd) (T : Txt K mg CE CF CR) (c_greatest_fall : Cal P w K mg base "greatest_fall" n ["fund"] (spGF CE CF)) :
    FnOk P w K mg base CX0 (n + 1) f fd ["fund"] (spTF CE CF) := by
  refine F.ok scTF (fun vs H Q E h => ?_) (fun cdv A outer s H vs Q E hr h => ?_)
  · obtain ⟨p, rfl, _⟩ := h
    rfl
  · obtain ⟨p, rfl, ea, s, hF, hG, kk⟩ := h
    refine ⟨_, (pss_cons (ps_set (i := 1) scTF.nd rfl (Or.inl rfl) (pe_cal c_greatest_fall hr rfl (pa_cons (pv 0) pa_nil)))
        (pss_one (ps_ret (pe_op op_cat (pe_lst (pa_cons (pe_ix ix_tup (pv 1) pe_int (fun _ _ => rfl)) (pa_cons (pe_ix ix_tup (pv 1) pe_int (fun _ _ => rfl)) pa_nil))) (pe_callTy call_list_of (by rfl) T.nlist boot_list (pa_cons (pe_ix ix_tup (pv 1) pe_int (fun _ _ => rfl)) pa_nil)))))), ?_⟩
    refine ⟨_, rfl, p, ea, s, rfl, hF, hG, fun H1 t u s1 ht hu => ?_⟩
    refine ⟨_, rfl, t, _, _, _, rfl, rfl, SqT.of ht, atI_nat (j := 0) rfl, _, rfl, t, _, _, _, rfl, rfl, SqT.of ht, atI_nat (j := 1) rfl, (by show 2 ≤ sizeLine; decide), fun l0 nl0 => ?_⟩
    have s2 := same_new (o := .lst [V.int ((FM.outer s (count s + 1)).1 : Nat), V.int ((FM.outer s (count s + 1)).2.1 : Nat)]) nl0
    refine ⟨_, rfl, t, _, _, _, rfl, rfl, SqT.of (s2 _ _ ht), atI_nat (j := 2) rfl, u, _, rfl, .inr (SqT.of (s2 _ _ hu)), fun l1 nl1 => ?_⟩
    have s3 := same_new (o := .lst ((FM.qT (FM.outer s (count s + 1)).2.2).map V.int)) nl1
    refine ⟨l0, l1, _, _, rfl, rfl, s3 _ _ upd_same, upd_same, (by show 2 + 2 ≤ sizeLine; decide), fun l nl => ?_⟩
    refine kk _ l (((s1.trans s2).trans s3).trans (same_new nl)) (Same.free ((s1.trans s2).trans s3) nl) ?_
    rw [step_fall, FM.fall_eq hG.pos]
    exact upd_same
/-! #### tell_dietz -/
abbrev sTD : Stmt := top 81
theorem scTD : FnScope ["fund", "j", "k", "refusal"] ["fund", "j", "k"] (defScope sTD) := ⟨rfl, rfl, rfl, by decide +kernel, rfl, by decide +kernel, by decide +kernel⟩
def spTD (CE CF : Addr) : Sp := fun vs H Q _ => ∃ (p : Addr) (j k : Int), vs = [.ref p, .int j, .int k] ∧ Tells CE CF H p (.dietz j k) Q
theorem step_dietz (s : State) (j k : Int) : Vbfuan.step s (.dietz j k) = onEnds s j k fun a b => if a = b then Vbfuan.no s 6 else if Vbfuan.dietzDen s a b < 1 then Vbfuan.no s 9 else Vbfuan.yes s (0 :: told (Vbfuan.least { num := Vbfuan.dietzNum s a b, den := (Vbfuan.dietzDen s a b).toNat })) := rfl
theorem dietz_bad {s : State} {j k : Int} (h : rAvg s j k ≠ 0) : (Vbfuan.step s (.dietz j k)).2 = [rAvg s j k] := by
  rw [step_dietz]
  unfold rAvg at *
  by_cases h1 : rSpan (count s + 1) j k ≠ 0
  · rw [if_pos h1, onEnds_bad h1]
  · rw [if_neg h1] at h
    rw [if_neg h1]
    obtain ⟨a, i, rfl, rfl, hi, hf⟩ := onEnds_good (Classical.byContradiction h1)
    rw [Int.toNat_natCast, Int.toNat_natCast] at *
    rw [hf]
    by_cases h2 : (a : Int) = ((a + i : Nat) : Int)
    · rw [if_pos h2, if_pos (by omega)]
      rfl
    · rw [if_neg h2] at h
      rw [if_neg h2, if_neg (by omega)]
      by_cases h3 : Vbfuan.dietzDen s a (a + i) < 1
      · rw [if_pos h3, if_pos h3]
        rfl
      · rw [if_neg h3] at h
        exact absurd rfl h
theorem dietz_good {s : State} {j k : Int} (h : rAvg s j k = 0) : ∃ a i : Nat, j = (a : Int) ∧ k = ((a + 1 + i : Nat) : Int) ∧ a + 1 + i ≤ count s ∧ 0 < Vbfuan.dietzDen s a (a + 1 + i) ∧ (Vbfuan.step s (.dietz j k)).2 = 0 :: FM.lowest (Vbfuan.dietzNum s a (a + 1 + i)) (Vbfuan.dietzDen s a (a + 1 + i)) := by
  rw [step_dietz]
  unfold rAvg at h
  by_cases h1 : rSpan (count s + 1) j k ≠ 0
  · rw [if_pos h1] at h
    exact absurd h h1
  · rw [if_neg h1] at h
    obtain ⟨a, i, rfl, rfl, hi, hf⟩ := onEnds_good (Classical.byContradiction h1)
    rw [Int.toNat_natCast, Int.toNat_natCast] at h
    rw [hf]
    by_cases h2 : (a : Int) = ((a + i : Nat) : Int)
    · rw [if_pos h2] at h
      exact absurd h (by decide)
    · rw [if_neg h2] at h
      rw [if_neg (by omega)]
      by_cases h3 : Vbfuan.dietzDen s a (a + i) < 1
      · rw [if_pos h3] at h
        exact absurd h (by decide)
      · rw [if_neg h3]
        obtain ⟨d, rfl⟩ : ∃ d, i = 1 + d := ⟨i - 1, by omega⟩
        rw [← Nat.add_assoc] at *
        have hp : 0 < Vbfuan.dietzDen s a (a + 1 + d) := by omega
        refine ⟨a, d, rfl, rfl, hi, hp, ?_⟩
        rw [FM.told_fr hp]
        show 0 :: told (Vbfuan.least _) = _
        rw [FM.least_eq (show (Vbfuan.dietzDen s a (a + 1 + d)).toNat ≠ 0 by omega)]
        rfl
theorem isum_le {B : Nat} : ∀ {l : List Int}, (∀ x ∈ l, x.natAbs ≤ B) → (isum l).natAbs ≤ l.length * B
  | [], _ => Nat.zero_le _
  | a :: l, h => by
    have h1 := h a (List.Mem.head _)
    have h2 := isum_le (l := l) fun x hx => h x (List.Mem.tail _ hx)
    show (a + isum l).natAbs ≤ (l.length + 1) * B
    rw [Nat.add_mul]
    omega
theorem Good.den {s : State} (g : Good s) {a i : Nat} (h : a + 1 + i ≤ count s) : Lim (Vbfuan.dietzDen s a (a + 1 + i)) := by
  have hc := g.cnt
  refine lim_of (n := 60) ?_ (by decide)
  unfold Vbfuan.dietzDen
  have t := g.t60 (a + 1 + i) h
  have b1 := g.asum (m := a) (by omega)
  have b2 : nsum (Vbfuan.after s a) * (Vbfuan.timeOf s (a + 1 + i) - Vbfuan.timeOf s a) ≤ 12000000000000 * 60 := Nat.mul_le_mul b1 (by omega)
  have b3 : (isum ((Vbfuan.behind a (a + 1 + i - 1)).map fun m => isum (Vbfuan.periodAt s m).flows * ((Vbfuan.timeOf s (a + 1 + i) - Vbfuan.timeOf s m : Nat) : Int))).natAbs ≤ 24 * (2 ^ 44 * 60) := by
    refine Nat.le_trans (isum_le (B := 2 ^ 44 * 60) fun x hx => ?_) ?_
    · obtain ⟨m, hm, rfl⟩ := List.mem_map.mp hx
      have hm' := FM.mem_behind hm
      have f1 : (isum (Vbfuan.periodAt s m).flows).natAbs ≤ 2 ^ 44 := g.fl (m := m) (by omega) (by omega)
      rw [Int.natAbs_mul, Int.natAbs_natCast]
      exact Nat.mul_le_mul f1 (by omega)
    · rw [List.length_map]
      refine Nat.mul_le_mul_right _ ?_
      unfold Vbfuan.behind
      rw [List.length_map, List.length_range]
      omega
  rw [← Int.natCast_mul]
  omega
theorem ok_TD {n : Nat} {f : Addr} {fd : FuncData} (F : Fun K "tell_dietz" "tell_dietz" sTD f fd) (T : Txt K mg CE CF CR) (c_averaged_refusal : Cal P w K mg base "averaged_refusal" n ["fund", "j", "k"] (spAR CE CF)) (c_least : Cal P w K mg base "least" n ["over", "under"] spLeast) (c_averaged_upper : Cal P w K mg base "averaged_upper" n ["fund", "j", "k"] (spAU CE CF)) (c_averaged_lower : Cal P w K mg base "averaged_lower" n ["fund", "j", "k"] (spAVL CE CF)) :
    FnOk P w K mg base CX0 (n + 1) f fd ["fund", "j", "k"] (spTD CE CF) := by
  refine F.ok scTD (fun vs H Q E h => ?_) (fun cdv A outer s H vs Q E hr h => ?_)
  · obtain ⟨p, j, k, rfl, _⟩ := h
    rfl
  · obtain ⟨p, j, k, rfl, ea, s, hF, hG, kk⟩ := h
    refine ⟨_, (pss_cons (ps_set (i := 3) scTD.nd rfl (Or.inl rfl) (pe_cal c_averaged_refusal hr rfl (pa_cons (pv 0) (pa_cons (pv 1) (pa_cons (pv 2) pa_nil)))))
        (pss_cons (ps_if (pt_cmpR op_ne (pv 3) (pe_const T.c_NOTHING_REFUSED rfl) (nomark _)) (pss_one (ps_ret (pe_lst (pa_cons (pv 3) pa_nil)))) pss_nil)
        (pss_one (ps_ret (pe_op op_cat (pe_lst (pa_cons pe_int pa_nil)) (pe_callTy call_list_of (by rfl) T.nlist boot_list (pa_cons (pe_cal c_least hr rfl (pa_cons (pe_cal c_averaged_upper hr rfl (pa_cons (pv 0) (pa_cons (pv 1) (pa_cons (pv 2) pa_nil)))) (pa_cons (pe_cal c_averaged_lower hr rfl (pa_cons (pv 0) (pa_cons (pv 1) (pa_cons (pv 2) pa_nil)))) pa_nil))) pa_nil))))))), ?_⟩
    refine ⟨_, rfl, _, rfl, _, rfl, p, ea, s, j, k, rfl, hF, hG, fun H1 s1 => ?_⟩
    refine ⟨_, rfl, rfl, _, rfl, iteNe (fun q => ?_) (fun q => ?_)⟩
    · refine ⟨_, rfl, (by show 1 ≤ sizeLine; decide), fun l nl => ?_⟩
      refine kk _ l (s1.trans (same_new nl)) (Same.free s1 nl) ?_
      rw [dietz_bad q]
      exact upd_same
    · obtain ⟨a, i, rfl, rfl, hi, hp, hans⟩ := dietz_good q
      rw [hans] at kk
      refine ⟨(by show 1 ≤ sizeLine; decide), fun l0 nl0 => ?_⟩
      have s10 := s1.trans (same_new (o := .lst [V.int 0]) nl0)
      refine ⟨_, rfl, _, rfl, _, rfl, p, ea, s, a, i, rfl, hF.same s10, hG, hi, fun H2 s2 => ?_⟩
      refine ⟨_, rfl, _, rfl, _, rfl, p, ea, s, a, i, rfl, hF.same (s10.trans s2), hG, hi, fun H3 s3 => ?_⟩
      refine ⟨_, _, rfl, hp, hG.den hi, fun t nt => ?_⟩
      have s4 := same_new (o := .tup ((FM.lowest (Vbfuan.dietzNum s a (a + 1 + i)) (Vbfuan.dietzDen s a (a + 1 + i))).map V.int)) nt
      refine ⟨t, _, rfl, .inr (SqT.of upd_same), fun l1 nl1 => ?_⟩
      have s5 := same_new (o := .lst ((FM.lowest (Vbfuan.dietzNum s a (a + 1 + i)) (Vbfuan.dietzDen s a (a + 1 + i))).map V.int)) nl1
      have g0 := s5 _ _ (s4 _ _ (s3 _ _ (s2 _ _ (upd_same (H := H1) (a := l0) (o := .lst [V.int 0])))))
      have sA := (((s10.trans s2).trans s3).trans s4).trans s5
      refine ⟨l0, l1, _, _, rfl, rfl, g0, upd_same, (by show 1 + 2 ≤ sizeLine; decide), fun l nl => ?_⟩
      refine kk _ l (sA.trans (same_new nl)) (Same.free sA nl) ?_
      exact upd_same
/-! #### tell_counts -/
abbrev sTC : Stmt := top 82
theorem scTC : FnScope ["fund"] ["fund"] (defScope sTC) := ⟨rfl, rfl, rfl, by decide +kernel, rfl, by decide +kernel, by decide +kernel⟩
def spTC (CE CF : Addr) : Sp := fun vs H Q _ => ∃ (p : Addr), vs = [.ref p] ∧ Tells CE CF H p .counts Q
theorem step_counts (s : State) : (Vbfuan.step s .counts).2 = [((Vbfuan.parts s : Nat) : Int), ((count s : Nat) : Int), ((Vbfuan.timeOf s (count s) : Nat) : Int)] := rfl
theorem ok_TC {n : Nat} {f : Addr} {fd : FuncData} (F : Fun K "tell_counts" "tell_counts" sTC f fd) (T : Txt K mg CE CF CR) (c_part_count : Cal P w K mg base "part_count" n ["fund"] (spPC CE CF)) :
    FnOk P w K mg base CX0 (n + 1) f fd ["fund"] (spTC CE CF) := by
  refine F.ok scTC (fun vs H Q E h => ?_) (fun cdv A outer s H vs Q E hr h => ?_)
  · obtain ⟨p, rfl, _⟩ := h
    rfl
  · obtain ⟨p, rfl, ea, s, hF, hG, kk⟩ := h
    refine ⟨_, (pss_one (ps_ret (pe_lst (pa_cons (pe_cal c_part_count hr rfl (pa_cons (pv 0) pa_nil)) (pa_cons (pe_op op_sub (pe_callB call_len_seq (by rfl) T.nlen PySem.boot_len (pa_cons (pe_fld (pv 0) rfl) pa_nil)) pe_int) (pa_cons (pe_fld (pe_ix ix_list (pe_fld (pv 0) rfl) (pe_un un_neg pe_int) (fun _ _ => rfl)) rfl) pa_nil)))))), ?_⟩
    obtain ⟨dx, wa, as, h1, h2, h3, hlen, hall⟩ := hF.all
    obtain ⟨a, dxe, b, hh, ff, e0, eE, e1, e2, e3, e4⟩ := hall (count s) (Nat.le_refl _)
    have e0' : (as.map V.ref)[(as.map V.ref).length - 1]? = some (V.ref a) := by rw [hlen]; exact e0
    refine ⟨_, rfl, p, ea, _, _, _, rfl, hF, endsOf_at (Nat.zero_le _), _, rfl, p, CF, dx, _, _, rfl, h1, T.clF, T.aF_ends, fundF_ends _ _, ea, _, rfl, .inl (SqL.of h3), _, _, rfl, rfl, _, rfl, p, CF, dx, _, _, rfl, h1, T.clF, T.aF_ends, fundF_ends _ _, _, rfl, ea, _, _, _, rfl, rfl, SqL.of h3, at_neg1 e0', a, CE, dxe, _, _, rfl, e1, T.clE, T.aE_time, endF_time _ _ _ _, (by show 3 ≤ sizeLine; decide), fun l nl => ?_⟩
    rw [e0_before, hlen]
    refine kk _ l (same_new nl) nl ?_
    rw [step_counts, show ((count s : Nat) : Int) = ((count s + 1 : Nat) : Int) - 1 by omega]
    exact upd_same
end
end FB
end
section
set_option maxRecDepth 100000
set_option maxHeartbeats 4000000
namespace FB
open Vbfuan
/-! ### how a call moves the state -/
theorem row_mem {l : List Int} {lo hi : Int} (h : row l lo hi = true) : ∀ x ∈ l, lo ≤ x ∧ x ≤ hi := fun x hx => inside_iff.mp (List.all_eq_true.mp h x hx)
theorem toZ_toNat : ∀ {l : List Int}, (∀ x ∈ l, 0 ≤ x) → toZ (l.map Int.toNat) = l
  | [], _ => rfl
  | a :: l, h => by
    show ((a.toNat : Nat) : Int) :: toZ (l.map Int.toNat) = a :: l
    rw [toZ_toNat fun x hx => h x (List.Mem.tail _ hx), Int.toNat_of_nonneg (h a (List.Mem.head _))]
theorem isum_toNat {l : List Int} (h : ∀ x ∈ l, 0 ≤ x) : (nsum (l.map Int.toNat) : Int) = isum l := by
  rw [← toZ_sum, toZ_toNat h, isum_eq]
theorem good_start : Good start where
  parts1 := by decide
  parts6 := by decide
  wlen := rfl
  wle := by decide
  cnt := by decide
  blen := fun m h => by
    have : m = 0 := Nat.le_zero.mp h
    subst this; rfl
  alen := fun m h => by
    have : m = 0 := Nat.le_zero.mp h
    subst this; rfl
  ble := fun m h => by
    have : m = 0 := Nat.le_zero.mp h
    subst this; decide
  ale := fun m h => by
    have : m = 0 := Nat.le_zero.mp h
    subst this; decide
  apos := fun m h => by
    have : m = 0 := Nat.le_zero.mp h
    subst this; decide
  qlen := fun m h1 h => absurd (Nat.le_trans h1 h) (by decide)
  qle := fun m h1 h => absurd (Nat.le_trans h1 h) (by decide)
  flow := fun m h1 h => absurd (Nat.le_trans h1 h) (by decide)
  tmono := fun m h => absurd h (Nat.not_lt_zero m)
  t60 := fun m h => by
    have : m = 0 := Nat.le_zero.mp h
    subst this; decide
theorem ends_start : endsOf start = [⟨0, [1], [1], []⟩] := rfl
/-! begin -/
theorem step_begin_bad {s : State} {l : List Int} (h : rStart l ≠ 0) : step s (.begin l) = (s, [rStart l]) := by
  unfold rStart at *
  show (if l.length < 1 ∨ 6 < l.length ∨ row l 0 1000000000 = false ∨ isum l < 1 then no s 2 else _) = _
  split at h
  · rename_i q
    rw [if_pos q, if_pos q]
    rfl
  · exact absurd rfl h
def began (l : List Int) : State := { first := l.map Int.toNat, weights := MILLION :: List.replicate (l.length - 1) 0, periods := [] }
theorem step_begin_good {s : State} {l : List Int} (h : rStart l = 0) : step s (.begin l) = (began l, [isum l]) := by
  unfold rStart at h
  show (if l.length < 1 ∨ 6 < l.length ∨ row l 0 1000000000 = false ∨ isum l < 1 then no s 2 else yes (began l) [isum l]) = _
  split at h
  · cases h
  · rename_i q
    rw [if_neg q]
    rfl
theorem began_ok {l : List Int} (h : rStart l = 0) : Good (began l) ∧ endsOf (began l) = [⟨0, l, l, []⟩] ∧ toZ (began l).weights = 1000000 :: List.replicate (l.length - 1) 0 := by
  obtain ⟨h1, h2, h3, h4⟩ := rStart_zero h
  have hr := row_mem h3
  have h0 : ∀ x ∈ l, 0 ≤ x := fun x hx => (hr x hx).1
  have hz := toZ_toNat h0
  have le : ∀ x ∈ l.map Int.toNat, x ≤ 1000000000 := fun x hx => by
    obtain ⟨y, hy, rfl⟩ := List.mem_map.mp hx
    have := hr y hy
    omega
  have m0 : ∀ {m}, m ≤ count (began l) → m = 0 := fun h => Nat.le_zero.mp h
  refine ⟨⟨by show 1 ≤ (l.map Int.toNat).length; rw [List.length_map]; exact h1, by show (l.map Int.toNat).length ≤ 6; rw [List.length_map]; exact h2, ?_, ?_, by show 0 ≤ 24; decide, ?_, ?_, ?_, ?_, ?_, ?_, ?_, ?_, ?_, ?_⟩, ?_, ?_⟩
  · show (MILLION :: List.replicate (l.length - 1) 0).length = (l.map Int.toNat).length
    rw [List.length_map, List.length_cons, List.length_replicate]
    omega
  · intro x hx
    rcases List.mem_cons.mp hx with rfl | hx
    · exact Nat.le_refl _
    · rw [List.eq_of_mem_replicate hx]
      exact Nat.zero_le _
  · intro m hm; rw [m0 hm]; rfl
  · intro m hm; rw [m0 hm]; rfl
  · intro m hm; rw [m0 hm]; exact fun x hx => Nat.le_trans (le x hx) (by decide)
  · intro m hm; rw [m0 hm]; exact fun x hx => Nat.le_trans (le x hx) (by decide)
  · intro m hm
    rw [m0 hm]
    show 1 ≤ nsum (l.map Int.toNat)
    have := isum_toNat h0
    omega
  · exact fun m h1 h => absurd (Nat.le_trans h1 h) (by show ¬ 1 ≤ 0; decide)
  · exact fun m h1 h => absurd (Nat.le_trans h1 h) (by show ¬ 1 ≤ 0; decide)
  · exact fun m h1 h => absurd (Nat.le_trans h1 h) (by show ¬ 1 ≤ 0; decide)
  · exact fun m h => absurd h (Nat.not_lt_zero m)
  · intro m hm; rw [m0 hm]; exact Nat.zero_le _
  · show [(⟨((0 : Nat) : Int), toZ (l.map Int.toNat), toZ (l.map Int.toNat), []⟩ : EndV)] = _
    rw [hz]
    rfl
  · show ((MILLION : Nat) : Int) :: toZ (List.replicate (l.length - 1) 0) = _
    unfold toZ
    rw [List.map_replicate]
    rfl
/-! weights -/
theorem step_weights_bad {s : State} {l : List Int} (h : rWeights (parts s) l ≠ 0) : step s (.weights l) = (s, [rWeights (parts s) l]) := by
  unfold rWeights at *
  show (if l.length ≠ parts s ∨ row l 0 1000000 = false ∨ isum l ≠ 1000000 then no s 2 else _) = _
  split at h
  · rename_i q
    rw [if_pos q, if_pos q]
    rfl
  · exact absurd rfl h
def weighed (s : State) (l : List Int) : State := { s with weights := l.map Int.toNat }
theorem step_weights_good {s : State} {l : List Int} (h : rWeights (parts s) l = 0) : step s (.weights l) = (weighed s l, [0]) := by
  unfold rWeights at h
  show (if l.length ≠ parts s ∨ row l 0 1000000 = false ∨ isum l ≠ 1000000 then no s 2 else yes (weighed s l) [0]) = _
  split at h
  · cases h
  · rename_i q
    rw [if_neg q]
    rfl
theorem weighed_ok {s : State} {l : List Int} (g : Good s) (h : rWeights (parts s) l = 0) : Good (weighed s l) ∧ endsOf (weighed s l) = endsOf s ∧ toZ (weighed s l).weights = l := by
  have q : l.length = parts s ∧ row l 0 1000000 = true := by
    unfold rWeights at h
    split at h
    · cases h
    · rename_i q
      exact ⟨Classical.byContradiction fun z => q (.inl z), Bool.not_eq_false _ |>.mp fun z => q (.inr (.inl z))⟩
  have hr := row_mem q.2
  refine ⟨⟨g.parts1, g.parts6, ?_, ?_, g.cnt, g.blen, g.alen, g.ble, g.ale, g.apos, g.qlen, g.qle, g.flow, g.tmono, g.t60⟩, rfl, toZ_toNat fun x hx => (hr x hx).1⟩
  · show (l.map Int.toNat).length = s.first.length
    rw [List.length_map]
    exact q.1
  · intro x hx
    obtain ⟨y, hy, rfl⟩ := List.mem_map.mp hx
    have := hr y hy
    omega
/-! period -/
theorem grown_eq : ∀ (h : List Nat) (e : List Int), rGrown (toZ h) e = (h.zip e).any fun x => x.1 == 0 && decide (0 < x.2)
  | [], _ => rfl
  | _ :: _, [] => rfl
  | a :: h, b :: e => by
    show (((a : Int) == 0 && decide (0 < b)) || rGrown (toZ h) e) = ((a == 0 && decide (0 < b)) || (h.zip e).any fun x => x.1 == 0 && decide (0 < x.2))
    rw [grown_eq h e]
    have : ((a : Int) == 0) = (a == 0) := by
      cases a with
      | zero => rfl
      | succ n =>
        rw [beq_eq_false_iff_ne.mpr (show ((n + 1 : Nat) : Int) ≠ 0 by omega)]
        rfl
    rw [this]
theorem below_eq : ∀ e f : List Int, ((List.zipWith (· + ·) e f).any (fun x => decide (x < 0)) = true) ↔ ((e.zip f).all fun x => decide (0 ≤ x.1 + x.2)) = false
  | [], _ => by simp
  | _ :: _, [] => by simp
  | a :: e, b :: f => by
    show ((decide (a + b < 0) || (List.zipWith (· + ·) e f).any (fun x => decide (x < 0))) = true) ↔ (decide (0 ≤ a + b) && (e.zip f).all fun x => decide (0 ≤ x.1 + x.2)) = false
    rw [Bool.or_eq_true, below_eq e f, decide_eq_true_iff, Bool.and_eq_false_iff, decide_eq_false_iff_not]
    rw [Int.not_le]
theorem isum_zip : ∀ {e f : List Int}, e.length = f.length → isum (List.zipWith (· + ·) e f) = isum e + isum f
  | [], [], _ => rfl
  | a :: e, b :: f, h => by
    have ih := isum_zip (e := e) (f := f) (by simpa using h)
    show (a + b) + isum (List.zipWith (· + ·) e f) = (a + isum e) + (b + isum f)
    rw [ih]
    omega
theorem afterOf_eq : ∀ {e f : List Int}, (∀ x ∈ e, 0 ≤ x) → (List.zipWith (· + ·) e f).any (fun x => decide (x < 0)) = false → toZ (((e.map Int.toNat).zip f).map fun x => ((x.1 : Int) + x.2).toNat) = List.zipWith (· + ·) e f
  | [], _, _, _ => rfl
  | _ :: _, [], _, _ => rfl
  | a :: e, b :: f, h, h2 => by
    have h2' : (decide (a + b < 0) || (List.zipWith (· + ·) e f).any (fun x => decide (x < 0))) = false := h2
    rw [Bool.or_eq_false_iff, decide_eq_false_iff_not] at h2'
    have ih := afterOf_eq (e := e) (f := f) (fun x hx => h x (List.Mem.tail _ hx)) h2'.2
    have ha := h a (List.Mem.head _)
    show (((((a.toNat : Nat) : Int) + b).toNat : Nat) : Int) :: toZ (((e.map Int.toNat).zip f).map fun x => ((x.1 : Int) + x.2).toNat) = (a + b) :: List.zipWith (· + ·) e f
    rw [ih]
    congr 1
    omega
def newP (t : Int) (e f b : List Int) : Period := { time := t.toNat, ends := e.map Int.toNat, flows := f, bench := b.map Int.toNat }
def grown (s : State) (t : Int) (e f b : List Int) : State := { s with periods := s.periods ++ [newP t e f b] }
def rP (s : State) (t : Int) (e f b : List Int) : Int := rPeriod (parts s) (count s + 1) (endOf s (count s)) t e f b
theorem step_period {s : State} {t : Int} {e f b : List Int} : step s (.period t e f b) = if rP s t e f b = 0 then (grown s t e f b, [((count s + 1 : Nat) : Int)]) else (s, [rP s t e f b]) := by
  show doPeriod s t e f b = _
  unfold Vbfuan.doPeriod rP rPeriod
  have c1 : (inside t ((timeOf s (count s) : Int) + 1) 60 = false) ↔ ¬ ((endOf s (count s)).time < t ∧ t ≤ 60) := by
    rw [inside_not]
    show _ ↔ ¬ (((timeOf s (count s) : Nat) : Int) < t ∧ t ≤ 60)
    omega
  by_cases h1 : inside t ((timeOf s (count s) : Int) + 1) 60 = false
  · have h1' := c1.mp h1
    simp only [if_pos h1, if_pos h1']
    rfl
  have h1' : ¬ ¬ ((endOf s (count s)).time < t ∧ t ≤ 60) := fun z => h1 (c1.mpr z)
  simp only [if_neg h1, if_neg h1']
  by_cases h2 : e.length ≠ parts s ∨ f.length ≠ parts s ∨ b.length ≠ parts s ∨ row e 0 1000000000000 = false ∨ row f (-1000000000000) 1000000000000 = false ∨ row b 0 10000000 = false
  · have e2 : rRows (parts s) e f b = -2 := if_pos h2
    have e2' : rRows (parts s) e f b ≠ 0 := by rw [e2]; decide
    simp only [if_pos h2, if_pos e2']
    rfl
  have e2 : rRows (parts s) e f b = 0 := if_neg h2
  have e2' : ¬ rRows (parts s) e f b ≠ 0 := fun z => z e2
  simp only [if_neg h2, if_neg e2']
  have e3 : rGrown (endOf s (count s)).behind e = ((after s (count s)).zip e).any fun x => x.1 == 0 && decide (0 < x.2) := grown_eq _ _
  rw [e3]
  by_cases h3 : ((after s (count s)).zip e).any (fun x => x.1 == 0 && decide (0 < x.2)) = true
  · simp only [if_pos h3]
    rfl
  simp only [if_neg h3]
  obtain ⟨l1, l2, l3, _⟩ := rRows_zero e2
  have c4 : ((List.zipWith (· + ·) e f).any (fun x => decide (x < 0)) = true ∨ isum (List.zipWith (· + ·) e f) < 1) ↔ (((e.zip f).all fun x => decide (0 ≤ x.1 + x.2)) = false ∨ isum e + isum f < 1) := by
    rw [below_eq, isum_zip (by omega)]
  by_cases h4 : ((e.zip f).all fun x => decide (0 ≤ x.1 + x.2)) = false ∨ isum e + isum f < 1
  · have h4' := c4.mpr h4
    simp only [if_pos h4, if_pos h4']
    rfl
  have h4' := fun z => h4 (c4.mp z)
  rw [if_neg h4, if_neg h4']
  by_cases h5 : MOSTENDS ≤ count s
  · have h5' : 24 ≤ ((count s + 1 : Nat) : Int) - 1 := by
      have : 24 ≤ count s := h5
      omega
    simp only [if_pos h5, if_pos h5']
    rfl
  have h5' : ¬ 24 ≤ ((count s + 1 : Nat) : Int) - 1 := by
    have : ¬ 24 ≤ count s := h5
    omega
  simp only [if_neg h5, if_neg h5']
  rfl
theorem grown_old {s : State} {t : Int} {e f b : List Int} {m : Nat} (h1 : 1 ≤ m) (h2 : m ≤ count s) : periodAt (grown s t e f b) m = periodAt s m := by
  show (s.periods ++ [newP t e f b]).getD (m - 1) emptyPeriod = s.periods.getD (m - 1) emptyPeriod
  have h2 : m ≤ s.periods.length := h2
  rw [List.getD_eq_getElem?_getD, List.getD_eq_getElem?_getD, List.getElem?_append_left (by omega)]
theorem grown_new {s : State} {t : Int} {e f b : List Int} : periodAt (grown s t e f b) (count s + 1) = newP t e f b := by
  show (s.periods ++ [newP t e f b]).getD (s.periods.length + 1 - 1) emptyPeriod = newP t e f b
  rw [List.getD_eq_getElem?_getD, Nat.add_sub_cancel, List.getElem?_append_right (Nat.le_refl _), Nat.sub_self]
  rfl
theorem grown_count {s : State} {t : Int} {e f b : List Int} : count (grown s t e f b) = count s + 1 := by
  show (s.periods ++ [newP t e f b]).length = s.periods.length + 1
  rw [List.length_append]
  rfl
theorem period_ok {s : State} (g : Good s) {t : Int} {e f b : List Int} (h : rP s t e f b = 0) : Good (grown s t e f b) ∧ endsOf (grown s t e f b) = endsOf s ++ [⟨t, e, List.zipWith (· + ·) e f, b⟩] := by
  have q1 : ¬ ¬ ((endOf s (count s)).time < t ∧ t ≤ 60) := fun z => by
    unfold rP rPeriod at h
    rw [if_pos z] at h
    exact absurd h (by decide)
  unfold rP rPeriod at h
  rw [if_neg q1] at h
  have q2 : rRows (parts s) e f b = 0 := Classical.byContradiction fun z => by
    rw [if_pos z] at h
    exact absurd h (by decide)
  rw [if_neg (fun z => z q2)] at h
  obtain ⟨l1, l2, l3, r1, r2, r3⟩ := rRows_zero q2
  split at h
  · exact absurd h (by decide)
  split at h
  · exact absurd h (by decide)
  rename_i q4
  split at h
  · exact absurd h (by decide)
  rename_i q5
  have q1' := Classical.not_not.mp q1
  have qt : ((timeOf s (count s) : Nat) : Int) < t ∧ t ≤ 60 := q1'
  have q4a : (List.zipWith (· + ·) e f).any (fun x => decide (x < 0)) = false := by
    cases z : (List.zipWith (· + ·) e f).any (fun x => decide (x < 0)) with
    | true => exact absurd (.inl z) q4
    | false => rfl
  have q4b : 1 ≤ isum (List.zipWith (· + ·) e f) := Classical.byContradiction fun z => q4 (.inr (by omega))
  have m1 := row_mem r1
  have m2 := row_mem r2
  have m3 := row_mem r3
  have ze : toZ (e.map Int.toNat) = e := toZ_toNat fun x hx => (m1 x hx).1
  have zb : toZ (b.map Int.toNat) = b := toZ_toNat fun x hx => (m3 x hx).1
  have za : toZ (afterOf (newP t e f b)) = List.zipWith (· + ·) e f := afterOf_eq (fun x hx => (m1 x hx).1) q4a
  have ec : count (grown s t e f b) = count s + 1 := grown_count
  have old : ∀ m, m ≤ count s → before (grown s t e f b) m = before s m ∧ after (grown s t e f b) m = after s m ∧ timeOf (grown s t e f b) m = timeOf s m := fun m hm => by
    unfold Vbfuan.before Vbfuan.after Vbfuan.timeOf
    by_cases h0 : m = 0
    · subst h0
      exact ⟨rfl, rfl, rfl⟩
    · rw [if_neg h0, if_neg h0, if_neg h0, if_neg h0, if_neg h0, if_neg h0, grown_old (by omega) hm]
      exact ⟨rfl, rfl, rfl⟩
  have nb : before (grown s t e f b) (count s + 1) = e.map Int.toNat := by
    unfold Vbfuan.before
    rw [if_neg (by omega), grown_new]
    rfl
  have na : after (grown s t e f b) (count s + 1) = afterOf (newP t e f b) := by
    unfold Vbfuan.after
    rw [if_neg (by omega), grown_new]
  have nt : timeOf (grown s t e f b) (count s + 1) = t.toNat := by
    unfold Vbfuan.timeOf
    rw [if_neg (by omega), grown_new]
    rfl
  have split2 : ∀ {m}, m ≤ count s + 1 → m ≤ count s ∨ m = count s + 1 := fun h => by omega
  have hc5 : count s + 1 ≤ 24 := by omega
  have pz : (isum (List.zipWith (· + ·) e f) : Int) = (nsum (afterOf (newP t e f b)) : Int) := by rw [isum_eq, ← za, toZ_sum]
  refine ⟨⟨g.parts1, g.parts6, g.wlen, g.wle, by rw [ec]; exact hc5, ?_, ?_, ?_, ?_, ?_, ?_, ?_, ?_, ?_, ?_⟩, ?_⟩
  · intro m hm
    rw [ec] at hm
    rcases split2 hm with hm | rfl
    · rw [(old m hm).1]; exact g.blen m hm
    · rw [nb, List.length_map]; exact l1
  · intro m hm
    rw [ec] at hm
    rcases split2 hm with hm | rfl
    · rw [(old m hm).2.1]; exact g.alen m hm
    · rw [na, ← toZ_length, za, List.length_zipWith]
      show min e.length f.length = s.first.length
      have : parts s = s.first.length := rfl
      omega
  · intro m hm
    rw [ec] at hm
    rcases split2 hm with hm | rfl
    · rw [(old m hm).1]; exact g.ble m hm
    · rw [nb]
      intro x hx
      obtain ⟨y, hy, rfl⟩ := List.mem_map.mp hx
      have := m1 y hy
      omega
  · intro m hm
    rw [ec] at hm
    rcases split2 hm with hm | rfl
    · rw [(old m hm).2.1]; exact g.ale m hm
    · rw [na]
      intro x hx
      have hx' : (x : Int) ∈ toZ (afterOf (newP t e f b)) := List.mem_map.mpr ⟨x, hx, rfl⟩
      rw [za, List.mem_iff_getElem?] at hx'
      obtain ⟨i, hi⟩ := hx'
      rw [List.getElem?_zipWith] at hi
      cases he : e[i]? with
      | none => rw [he] at hi; cases hi
      | some u =>
        cases hf : f[i]? with
        | none => rw [he, hf] at hi; cases hi
        | some v =>
          rw [he, hf] at hi
          have := Option.some.inj hi
          have := m1 u (List.mem_of_getElem? he)
          have := m2 v (List.mem_of_getElem? hf)
          omega
  · intro m hm
    rw [ec] at hm
    rcases split2 hm with hm | rfl
    · rw [(old m hm).2.1]; exact g.apos m hm
    · rw [na]
      omega
  · intro m h1 hm
    rw [ec] at hm
    rcases split2 hm with hm | rfl
    · rw [grown_old h1 hm]; exact g.qlen m h1 hm
    · rw [grown_new]
      show (b.map Int.toNat).length = s.first.length
      rw [List.length_map]; exact l3
  · intro m h1 hm
    rw [ec] at hm
    rcases split2 hm with hm | rfl
    · rw [grown_old h1 hm]; exact g.qle m h1 hm
    · rw [grown_new]
      intro x hx
      obtain ⟨y, hy, rfl⟩ := List.mem_map.mp (show x ∈ b.map Int.toNat from hx)
      have := m3 y hy
      omega
  · intro m h1 hm
    rw [ec] at hm
    rcases split2 hm with hm | rfl
    · rw [(old m hm).1, (old m hm).2.1, grown_old h1 hm]; exact g.flow m h1 hm
    · rw [nb, na, grown_new, ← pz, isum_zip (by omega), isum_toNat fun x hx => (m1 x hx).1]
      rfl
  · intro m hm
    rw [ec] at hm
    by_cases q : m < count s
    · rw [(old m (by omega)).2.2, (old (m + 1) (by omega)).2.2]; exact g.tmono m q
    · have : m = count s := by omega
      subst this
      rw [(old _ (Nat.le_refl _)).2.2, nt]
      omega
  · intro m hm
    rw [ec] at hm
    rcases split2 hm with hm | rfl
    · rw [(old m hm).2.2]; exact g.t60 m hm
    · rw [nt]; omega
  · unfold endsOf
    rw [ec, List.range_succ, List.map_append]
    congr 1
    · refine List.map_congr_left fun m hm => ?_
      have hm' : m ≤ count s := by
        have := List.mem_range.mp hm
        omega
      obtain ⟨o1, o2, o3⟩ := old m hm'
      unfold endOf
      rw [o1, o2, o3]
      by_cases h0 : m = 0
      · rw [if_pos h0, if_pos h0]
      · rw [if_neg h0, if_neg h0, grown_old (by omega) hm']
    · show [endOf (grown s t e f b) (count s + 1)] = _
      unfold endOf
      rw [nb, na, nt, ze, za, if_neg (by omega), grown_new]
      show [(⟨((t.toNat : Nat) : Int), e, List.zipWith (· + ·) e f, toZ (b.map Int.toNat)⟩ : EndV)] = _
      rw [zb, Int.toNat_of_nonneg (by omega)]
end FB
end
section
set_option maxRecDepth 100000
set_option maxHeartbeats 4000000
namespace FB
open PySem PySem.Spec PyProof.Rows L2
open Vbfuan (State count)
/-- what is handed in: read, never written -/
def InL (K : PySem.W.Frag) (H : Hp) (a : Addr) (ns : List Int) : Prop :=
  (∃ o, H a = some (.frz o (.lst (ns.map V.int)))) ∨
    ∃ (o : Obj) (its : Array Value) (n : Nat), K.lookup a = some o ∧ o.cls = .type "list" ∧ o.dict = none ∧ o.data = .seq its n ∧ its.size ≤ sizeLine ∧ Vals (ns.map V.int) its.toList
theorem InL.seq {K : PySem.W.Frag} {H : Hp} {a : Addr} {ns : List Int} (h : InL K H a ns) : SqL K H a (ns.map V.int) := by
  rcases h with ⟨o, h⟩ | h
  · exact .inl (.inr ⟨o, h⟩)
  · exact .inr h
theorem InL.keep {K : PySem.W.Frag} {H H' : Hp} {a : Addr} {ns : List Int} (h : InL K H a ns) (k : ∀ o, H a = some (.frz o (.lst (ns.map V.int))) → H' a = some (.frz o (.lst (ns.map V.int)))) : InL K H' a ns := by
  rcases h with ⟨o, h⟩ | h
  · exact .inl ⟨o, k o h⟩
  · exact .inr h
/-- a reader at r with these numbers still to come -/
structure RdAt (K : PySem.W.Frag) (CR : Addr) (H : Hp) (r : Addr) (rest : List Int) : Prop where
  ex : ∃ (dx a : Addr) (ns : List Int) (pos : Nat), H r = some (.ins CR dx (readF a pos)) ∧ InL K H a ns ∧ ns.drop pos = rest ∧ pos ≤ ns.length
/-- all but what stands at r is as it was -/
def Kept (H H' : Hp) (r : Addr) : Prop := ∀ c o, H c = some o → c ≠ r → H' c = some o
theorem Kept.trans {H H1 H2 : Hp} {r : Addr} (a : Kept H H1 r) (b : Kept H1 H2 r) : Kept H H2 r := fun c o e hc => b c o (a c o e hc) hc
theorem Same.kept {H H' : Hp} (s : Same H H') (r : Addr) : Kept H H' r := fun c o e _ => s c o e
theorem kept_upd {H : Hp} {r : Addr} {o : HO} : Kept H (upd H r o) r := fun c u e hc => by rw [upd_ne hc]; exact e
theorem RdAt.ins {K : PySem.W.Frag} {CR : Addr} {H : Hp} {r : Addr} {rest : List Int} (x : RdAt K CR H r rest) : ∃ dx a pos, H r = some (.ins CR dx (readF a pos)) := by
  obtain ⟨dx, a, ns, pos, h, _⟩ := x.ex
  exact ⟨dx, a, pos, h⟩
theorem readF_no {x : Str} {a : Addr} {p : Int} (h1 : (x == "numbers") = false) (h2 : (x == "place") = false) : (readF a p).lookup x = Option.none := (lk_ne h1).trans ((lk_ne h2).trans lk_nil)
theorem FundAt.kept {CE CF CR K} {H H' : Hp} {p ea r : Addr} {ws : List Int} {es : List EndV} {rest : List Int} (x : FundAt CE CF H p ea ws es) (hr : RdAt K CR H r rest) (k : Kept H H' r) : FundAt CE CF H' p ea ws es ∧ p ≠ r ∧ ea ≠ r := by
  obtain ⟨dxr, a, pos, hr⟩ := hr.ins
  obtain ⟨dx, wa, h1, h2⟩ := x.fund
  obtain ⟨as, h3, h4, h5⟩ := x.lst
  have np : p ≠ r := ne_of h1 hr fun z => by
    injection z with _ _ z3
    have z4 := congrArg (fun fs => List.lookup ("weights" : Str) fs) z3
    simp only [fundF_weights, readF_no (x := "weights") (by decide +kernel) (by decide +kernel)] at z4
    cases z4
  have nl : ∀ {c : Addr} {xs : List V}, H c = some (.lst xs) → c ≠ r := fun h => ne_of h hr (by intro z; cases z)
  refine ⟨⟨⟨dx, wa, k _ _ h1 np, k _ _ h2 (nl h2)⟩, as, k _ _ h3 (nl h3), h4, fun i b e hb he => ?_⟩, np, nl h3⟩
  obtain ⟨dxe, b', hh, ff, g4, g5, g6, g7⟩ := (h5 i b e hb he).ex
  have nb : b ≠ r := ne_of g4 hr fun z => by
    injection z with _ _ z3
    have z4 := congrArg (fun fs => List.lookup ("time" : Str) fs) z3
    simp only [endF_time, readF_no (x := "time") (by decide +kernel) (by decide +kernel)] at z4
    cases z4
  exact ⟨dxe, b', hh, ff, k _ _ g4 nb, k _ _ g5 (nl g5), k _ _ g6 (nl g6), k _ _ g7 (nl g7)⟩
theorem RdAt.moved {CE CF CR K} {H H' : Hp} {p ea r : Addr} {ws : List Int} {es : List EndV} {rest : List Int} (hr : RdAt K CR H r rest) (x : FundAt CE CF H p ea ws es) (k : ∀ c o, H c = some o → c ≠ p → c ≠ ea → H' c = some o) : RdAt K CR H' r rest := by
  obtain ⟨_, np, ne⟩ := x.kept hr (H' := H) fun c o e _ => e
  obtain ⟨dxr, a, ns, pos, h1, h2, h3⟩ := hr.ex
  obtain ⟨dx, wa, g1, g2⟩ := x.fund
  obtain ⟨as, g3, g4, g5⟩ := x.lst
  exact ⟨dxr, a, ns, pos, k _ _ h1 (fun z => np z.symm) (fun z => ne z.symm), h2.keep fun o h => k _ _ h (ne_of h g1 (by intro z; cases z)) (ne_of h g3 (by intro z; cases z)), h3⟩
theorem RdAt.same {CR K} {H H' : Hp} {r : Addr} {rest : List Int} (hr : RdAt K CR H r rest) (s : Same H H') : RdAt K CR H' r rest := by
  obtain ⟨dxr, a, ns, pos, h1, h2, h3⟩ := hr.ex
  exact ⟨dxr, a, ns, pos, s _ _ h1, h2.keep fun o h => s _ _ h, h3⟩
section
variable {P : Program} {w : World} {K : PySem.W.Frag} {mg : Str → Option Value} {base : Heap} {CE CF CR : Addr}
abbrev sRI : Stmt := inClass (top 100) 0
theorem scRI : FnScope ["self", "numbers"] ["self", "numbers"] (defScope sRI) := ⟨rfl, rfl, rfl, by decide +kernel, rfl, by decide +kernel, by decide +kernel⟩
def spRI (K : PySem.W.Frag) (CR : Addr) : Sp := fun vs H Q _ => ∃ (r dx a : Addr) (ns : List Int), vs = [.ref r, .ref a] ∧ H r = some (.ins CR dx []) ∧ InL K H a ns ∧ ∀ H', RdAt K CR H' r ns → Kept H H' r → Q .non H'
theorem ok_RI {n : Nat} {f : Addr} {fd : FuncData} (F : Fun K "__init__" "Reader.__init__" sRI f fd) (T : Txt K mg CE CF CR) : FnOk P w K mg base CX0 (n + 1) f fd ["self", "numbers"] (spRI K CR) := by
  refine F.ok scRI (fun vs H Q E h => ?_) (fun cdv A outer s H vs Q E hr h => ?_)
  · obtain ⟨r, dx, a, ns, rfl, _⟩ := h
    rfl
  · obtain ⟨r, dx, a, ns, rfl, hr', ha, k⟩ := h
    refine ⟨_, (pss_cons (ps_fld (pv 0) (pv 1) rfl)
        (pss_one (ps_fld (pv 0) pe_int rfl))), ?_⟩
    refine ⟨_, rfl, _, rfl, r, CR, dx, _, rfl, hr', T.clR, T.aR_numbers, (by show 0 < 1000; decide), ?_⟩
    refine ⟨_, rfl, r, CR, dx, _, rfl, upd_same, T.clR, T.aR_place, (by show 1 < 1000; decide), ?_⟩
    refine k _ ⟨dx, a, ns, 0, ?_, ?_, rfl, Nat.zero_le _⟩ (kept_upd.trans kept_upd)
    · rw [upd_same, readF_new]
      rfl
    · refine ha.keep fun o h => ?_
      have n : a ≠ r := ne_of h hr' (by intro z; cases z)
      rw [upd_ne n, upd_ne n]
      exact h
abbrev sHM : Stmt := inClass (top 100) 1
theorem scHM : FnScope ["self"] ["self"] (defScope sHM) := ⟨rfl, rfl, rfl, by decide +kernel, rfl, by decide +kernel, by decide +kernel⟩
def spHM (K : PySem.W.Frag) (CR : Addr) : Sp := fun vs H Q _ => ∃ (r : Addr) (rest : List Int), vs = [.ref r] ∧ RdAt K CR H r rest ∧ Q (.bl (!rest.isEmpty)) H
theorem ok_HM {n : Nat} {f : Addr} {fd : FuncData} (F : Fun K "has_more" "Reader.has_more" sHM f fd) (T : Txt K mg CE CF CR) : FnOk P w K mg base CX0 (n + 1) f fd ["self"] (spHM K CR) := by
  refine F.ok scHM (fun vs H Q E h => ?_) (fun cdv A outer s H vs Q E hr h => ?_)
  · obtain ⟨r, rest, rfl, _⟩ := h
    rfl
  · obtain ⟨r, rest, rfl, ⟨dx, a, ns, pos, h1, h2, h3, h4⟩, k⟩ := h
    refine ⟨_, (pss_one (ps_ret (pe_cmpR op_lt (pe_fld (pv 0) rfl) (pe_callB call_len_seq (by rfl) T.nlen PySem.boot_len (pa_cons (pe_fld (pv 0) rfl) pa_nil)) (nomark _)))), ?_⟩
    refine ⟨_, rfl, r, CR, dx, _, _, rfl, h1, T.clR, T.aR_place, readF_place _ _, _, rfl, r, CR, dx, _, _, rfl, h1, T.clR, T.aR_numbers, readF_numbers _ _, a, _, rfl, .inl h2.seq, _, _, rfl, rfl, ?_⟩
    have e : decide ((pos : Int) < (((ns.map V.int).length : Nat) : Int)) = (!rest.isEmpty) := by
      rw [List.length_map, ← h3]
      cases q : (ns.drop pos).isEmpty with
      | true =>
        have := List.isEmpty_iff.mp q
        rw [List.drop_eq_nil_iff] at this
        exact decide_eq_false (by omega)
      | false =>
        have : ¬ ns.length ≤ pos := fun z => by
          rw [List.drop_eq_nil_iff.mpr z] at q
          cases q
        exact decide_eq_true (by omega)
    show Q (.bl (decide ((pos : Int) < (((ns.map V.int).length : Nat) : Int)))) H
    rw [e]
    exact k
abbrev sTN : Stmt := inClass (top 100) 2
theorem scTN : FnScope ["self", "number"] ["self"] (defScope sTN) := ⟨rfl, rfl, rfl, by decide +kernel, rfl, by decide +kernel, by decide +kernel⟩
def spTN (K : PySem.W.Frag) (CR : Addr) : Sp := fun vs H Q _ => ∃ (r : Addr) (x : Int) (rest : List Int), vs = [.ref r] ∧ RdAt K CR H r (x :: rest) ∧ ∀ H', RdAt K CR H' r rest → Kept H H' r → Q (.int x) H'
theorem drop_next {ns rest : List Int} {pos : Nat} {x : Int} (h : ns.drop pos = x :: rest) : ns[pos]? = some x ∧ ns.drop (pos + 1) = rest := by
  refine ⟨?_, ?_⟩
  · have := congrArg (fun l => l[0]?) h
    simpa using this
  · have := congrArg (fun l => l.drop 1) h
    simpa [List.drop_drop] using this
theorem RdAt.step {H : Hp} {r dx a : Addr} {ns rest : List Int} {pos q : Nat} (h1 : H r = some (.ins CR dx (readF a pos))) (h2 : InL K H a ns) (h3 : ns.drop q = rest) (h4 : q ≤ ns.length) : RdAt K CR (upd H r (.ins CR dx (readF a q))) r rest := by
  refine ⟨dx, a, ns, q, upd_same, h2.keep fun o h => ?_, h3, h4⟩
  rw [upd_ne (ne_of h h1 (by intro z; cases z))]
  exact h
theorem ok_TN {n : Nat} {f : Addr} {fd : FuncData} (F : Fun K "take_number" "Reader.take_number" sTN f fd) (T : Txt K mg CE CF CR) : FnOk P w K mg base CX0 (n + 1) f fd ["self"] (spTN K CR) := by
  refine F.ok scTN (fun vs H Q E h => ?_) (fun cdv A outer s H vs Q E hr h => ?_)
  · obtain ⟨r, x, rest, rfl, _⟩ := h
    rfl
  · obtain ⟨r, x, rest, rfl, ⟨dx, a, ns, pos, h1, h2, h3, h4⟩, k⟩ := h
    refine ⟨_, (pss_cons (ps_set (i := 1) scTN.nd rfl (Or.inl rfl) (pe_ix ix_list (pe_fld (pv 0) rfl) (pe_fld (pv 0) rfl) (fun _ _ => rfl)))
        (pss_cons (ps_fld (pv 0) (pe_op op_add (pe_fld (pv 0) rfl) pe_int) rfl)
        (pss_one (ps_ret (pv 1))))), ?_⟩
    obtain ⟨e1, e2⟩ := drop_next h3
    refine ⟨_, rfl, r, CR, dx, _, _, rfl, h1, T.clR, T.aR_numbers, readF_numbers _ _, _, rfl, r, CR, dx, _, _, rfl, h1, T.clR, T.aR_place, readF_place _ _, a, _, _, _, rfl, rfl, h2.seq, atI_nat (by rw [List.getElem?_map, e1]; rfl), ?_⟩
    refine ⟨_, rfl, r, CR, dx, _, _, rfl, h1, T.clR, T.aR_place, readF_place _ _, _, _, rfl, rfl, _, rfl, r, CR, dx, _, rfl, h1, T.clR, T.aR_place, (by show 2 < 1000; decide), ?_⟩
    refine ⟨_, rfl, ?_⟩
    have e : putF "place" (V.int ((pos : Int) + 1)) (readF a pos) = readF a ((pos + 1 : Nat) : Int) := readF_put _ _ _
    refine k _ ?_ kept_upd
    show RdAt K CR (upd H r (.ins CR dx (putF "place" (V.int ((pos : Int) + 1)) (readF a pos)))) r rest
    rw [e]
    exact RdAt.step h1 h2 e2 (List.getElem?_eq_some_iff.mp e1).1
abbrev sTNS : Stmt := inClass (top 100) 3
theorem scTNS : FnScope ["self", "count", "start"] ["self", "count"] (defScope sTNS) := ⟨rfl, rfl, rfl, by decide +kernel, rfl, by decide +kernel, by decide +kernel⟩
def spTNS (K : PySem.W.Frag) (CR : Addr) : Sp := fun vs H Q _ => ∃ (r : Addr) (row rest : List Int), vs = [.ref r, .int row.length] ∧ RdAt K CR H r (row ++ rest) ∧ ∀ H' l, RdAt K CR H' r rest → LI H' l row → Kept H H' r → H l = Option.none → Q (.ref l) H'
theorem cut_row {ns row rest : List Int} {pos : Nat} (h : ns.drop pos = row ++ rest) (hp : pos ≤ ns.length) : cutV (ns.map V.int) (some (pos : Int)) (some ((pos : Int) + (row.length : Int))) = row.map V.int := by
  have hl : ns.length = pos + (row.length + rest.length) := by
    have := congrArg List.length h
    rw [List.length_drop, List.length_append] at this
    omega
  have e1 : HT.sIx (ns.map V.int).length 0 (some (pos : Int)) = pos := by
    unfold HT.sIx
    simp only [List.length_map]
    first | omega | (split <;> omega) | (simp; omega)
  have e2 : HT.sIx (ns.map V.int).length (ns.map V.int).length (some ((pos : Int) + (row.length : Int))) = pos + row.length := by
    unfold HT.sIx
    simp only [List.length_map]
    first | omega | (split <;> omega) | (simp; omega)
  unfold cutV
  rw [e1, e2, ← List.map_drop, h, ← List.map_take, show pos + row.length - pos = row.length by omega, List.take_left]
theorem ok_TNS {n : Nat} {f : Addr} {fd : FuncData} (F : Fun K "take_numbers" "Reader.take_numbers" sTNS f fd) (T : Txt K mg CE CF CR) : FnOk P w K mg base CX0 (n + 1) f fd ["self", "count"] (spTNS K CR) := by
  refine F.ok scTNS (fun vs H Q E h => ?_) (fun cdv A outer s H vs Q E hr h => ?_)
  · obtain ⟨r, row, rest, rfl, _⟩ := h
    rfl
  · obtain ⟨r, row, rest, rfl, ⟨dx, a, ns, pos, h1, h2, h3, h4⟩, k⟩ := h
    refine ⟨_, (pss_cons (ps_set (i := 2) scTNS.nd rfl (Or.inl rfl) (pe_fld (pv 0) rfl))
        (pss_cons (ps_fld (pv 0) (pe_op op_add (pv 2) (pv 1)) rfl)
        (pss_one (ps_ret (pe_slice sl_list (pe_fld (pv 0) rfl) (po_some (pv 2)) (po_some (pe_fld (pv 0) rfl))))))), ?_⟩
    have e : putF "place" (V.int ((pos : Int) + (row.length : Int))) (readF a pos) = readF a ((pos + row.length : Nat) : Int) := readF_put _ _ _
    have e3 : ns.drop (pos + row.length) = rest := by rw [← List.drop_drop, h3, List.drop_left]
    have e4 : pos + row.length ≤ ns.length := by
      have := congrArg List.length h3
      rw [List.length_drop, List.length_append] at this
      omega
    refine ⟨_, rfl, r, CR, dx, _, _, rfl, h1, T.clR, T.aR_place, readF_place _ _, ?_⟩
    refine ⟨_, rfl, _, rfl, _, _, rfl, rfl, _, rfl, r, CR, dx, _, rfl, h1, T.clR, T.aR_place, (by show 2 < 1000; decide), ?_⟩
    have R : RdAt K CR (upd H r (.ins CR dx (putF "place" (V.int ((pos : Int) + (row.length : Int))) (readF a pos)))) r rest := by
      rw [e]
      exact RdAt.step h1 h2 e3 e4
    have f1 : (putF "place" (V.int ((pos : Int) + (row.length : Int))) (readF a pos)).lookup ("numbers" : Str) = some (.ref a) := by rw [e]; exact readF_numbers _ _
    have f2 : (putF "place" (V.int ((pos : Int) + (row.length : Int))) (readF a pos)).lookup ("place" : Str) = some (.int ((pos : Int) + (row.length : Int))) := by rw [readF_put]; exact readF_place _ _
    refine ⟨_, rfl, r, CR, dx, _, _, rfl, upd_same, T.clR, T.aR_numbers, f1, _, rfl, _, rfl, _, rfl, r, CR, dx, _, _, rfl, upd_same, T.clR, T.aR_place, f2, _, rfl, a, ns.map V.int, rfl, ?_, fun l nl => ?_⟩
    · refine (h2.keep fun o h => ?_).seq
      rw [upd_ne (ne_of h h1 (by intro z; cases z))]
      exact h
    · refine k _ l (R.same (same_new nl)) ?_ (kept_upd.trans (Same.kept (same_new nl) r)) (free_kept (fun c u e hc => by rw [upd_ne hc]; exact e) upd_same nl)
      rw [LI, upd_same, cut_row h3 h4]
abbrev sTR : Stmt := inClass (top 100) 4
theorem scTR : FnScope ["self"] ["self"] (defScope sTR) := ⟨rfl, rfl, rfl, by decide +kernel, rfl, by decide +kernel, by decide +kernel⟩
def spTR (K : PySem.W.Frag) (CR : Addr) : Sp := fun vs H Q _ => ∃ (r : Addr) (row rest : List Int), vs = [.ref r] ∧ RdAt K CR H r (PyFlat.putRow row ++ rest) ∧ ∀ H' l, RdAt K CR H' r rest → LI H' l row → Kept H H' r → H l = Option.none → Q (.ref l) H'
theorem ok_TR {n : Nat} {f : Addr} {fd : FuncData} (F : Fun K "take_row" "Reader.take_row" sTR f fd) (T : Txt K mg CE CF CR) (m_take_number : Mth P w K mg base CR "take_number" n ["self"] (spTN K CR)) (m_take_numbers : Mth P w K mg base CR "take_numbers" n ["self", "count"] (spTNS K CR)) :
    FnOk P w K mg base CX0 (n + 1) f fd ["self"] (spTR K CR) := by
  refine F.ok scTR (fun vs H Q E h => ?_) (fun cdv A outer s H vs Q E hr h => ?_)
  · obtain ⟨r, row, rest, rfl, _⟩ := h
    rfl
  · obtain ⟨r, row, rest, rfl, hR, k⟩ := h
    refine ⟨_, (pss_one (ps_ret (pe_mth m_take_numbers hr (pv 0) (pa_cons (pe_mth0 m_take_number hr (pv 0)) pa_nil)))), ?_⟩
    obtain ⟨dx, a, pos, h1⟩ := hR.ins
    refine ⟨_, rfl, r, dx, _, rfl, h1, readF_no (by decide +kernel) (by decide +kernel), _, rfl, r, dx, _, rfl, h1, readF_no (by decide +kernel) (by decide +kernel), r, _, row ++ rest, rfl, hR, fun H1 R1 k1 => ?_⟩
    refine ⟨r, row, rest, rfl, R1, fun H2 l R2 hl k2 fl => ?_⟩
    obtain ⟨dx1, a1, pos1, h2⟩ := R1.ins
    exact k H2 l R2 hl (k1.trans k2) (free_kept k1 h2 fl)
/-! ### desk -/
/-- what a call's answer leaves: the fund moved to s', the numbers taken, the answer in a list -/
def Answers (K : PySem.W.Frag) (CE CF CR : Addr) (H : Hp) (p ea r : Addr) (s : State) (rest ans : List Int) (Q : VK) : Prop :=
  ∀ (H' : Hp) (ea' l : Addr), FundS CE CF H' p ea' s → Good s → RdAt K CR H' r rest → (∀ c o, H c = some o → c ≠ p → c ≠ ea → c ≠ r → H' c = some o) → (∀ t o, H t = some o → Apart H p t → Apart H' p t) → H l = Option.none → LI H' l ans → Q (.ref l) H'
abbrev sAN : Stmt := top 106
theorem scAN : FnScope ["calls", "reader", "fund", "told", "answer"] ["calls"] (defScope sAN) := ⟨rfl, rfl, rfl, by decide +kernel, rfl, by decide +kernel, by decide +kernel⟩
def spAL (K : PySem.W.Frag) (CE CF CR : Addr) : Sp := fun vs H Q _ => ∃ (p ea r : Addr) (s : State) (c : List (List Int)) (rest : List Int), vs = [.ref p, .ref r] ∧ FundS CE CF H p ea s ∧ Good s ∧ RdAt K CR H r (PyFlat.put1 c ++ rest) ∧ PyFlat.okCall PyVbfuan.shape c ∧ (∀ row ∈ c, row.length ≤ 100000) ∧
  Answers K CE CF CR H p ea r (VbfuanNeutral.step s c).1 rest (VbfuanNeutral.step s c).2 Q
end
end FB
end
section
set_option maxRecDepth 100000
set_option maxHeartbeats 4000000
namespace FB
open PySem PySem.Spec PyProof.Rows L2
open Vbfuan (State count)
/-! ### the calls, one of fifteen forms -/
inductive Form : List (List Int) → Vbfuan.Call → Prop where
  | begin (l : List Int) : Form [[0], l] (.begin l)
  | weights (l : List Int) : Form [[1], l] (.weights l)
  | period (t : Int) (e f b : List Int) : Form [[2, t], e, f, b] (.period t e f b)
  | value (k : Int) : Form [[3, k]] (.value k)
  | linked (j k : Int) : Form [[4, j, k]] (.linked j k)
  | scaled (j k : Int) : Form [[5, j, k]] (.scaled j k)
  | part (j k i : Int) : Form [[6, j, k, i]] (.part j k i)
  | bench (j k : Int) : Form [[7, j, k]] (.bench j k)
  | beats (j k : Int) : Form [[8, j, k]] (.beats j k)
  | made (k i : Int) : Form [[9, k, i]] (.made k i)
  | irr : Form [[10]] .irr
  | sign (n : Int) : Form [[11, n]] (.sign n)
  | fall : Form [[12]] .fall
  | dietz (j k : Int) : Form [[13, j, k]] (.dietz j k)
  | counts : Form [[14]] .counts
theorem Form.callOf {c : List (List Int)} {d : Vbfuan.Call} (h : Form c d) : VbfuanNeutral.callOf c = some d := by cases h <;> rfl
theorem Form.step {c : List (List Int)} {d : Vbfuan.Call} (h : Form c d) (s : State) : VbfuanNeutral.step s c = Vbfuan.step s d := by cases h <;> rfl
theorem Form.whole {c : List (List Int)} {d : Vbfuan.Call} (h : Form c d) : PyVbfuan.whole c = c := by cases h <;> rfl
theorem len0 {α : Type} {l : List α} (h : 0 = l.length) : l = [] := List.length_eq_zero_iff.mp h.symm
theorem len1 {α : Type} {l : List α} (h : 1 = l.length) : ∃ a, l = [a] := by
  match l, h with
  | [a], _ => exact ⟨a, rfl⟩
theorem len2 {α : Type} {l : List α} (h : 2 = l.length) : ∃ a b, l = [a, b] := by
  match l, h with
  | [a, b], _ => exact ⟨a, b, rfl⟩
theorem len3 {α : Type} {l : List α} (h : 3 = l.length) : ∃ a b c, l = [a, b, c] := by
  match l, h with
  | [a, b, c], _ => exact ⟨a, b, c, rfl⟩
theorem form_of {c : List (List Int)} (h : PyFlat.okCall PyVbfuan.shape c) : ∃ d, Form c d := by
  obtain ⟨p, a, xs, rfl, hs⟩ := h
  unfold PyVbfuan.shape at hs
  have both : ∀ {m n : Nat}, some (m, n) = some (a.length, xs.length) → m = a.length ∧ n = xs.length := fun h => by
    have := Option.some.inj h
    exact ⟨congrArg Prod.fst this, congrArg Prod.snd this⟩
  by_cases e0 : p = 0
  · rw [if_pos e0] at hs
    obtain ⟨h1, h2⟩ := both hs
    obtain rfl := len0 h1
    obtain ⟨r1, rfl⟩ := len1 h2
    subst e0
    exact ⟨_, .begin r1⟩
  rw [if_neg e0] at hs
  by_cases e1 : p = 1
  · rw [if_pos e1] at hs
    obtain ⟨h1, h2⟩ := both hs
    obtain rfl := len0 h1
    obtain ⟨r1, rfl⟩ := len1 h2
    subst e1
    exact ⟨_, .weights r1⟩
  rw [if_neg e1] at hs
  by_cases e2 : p = 2
  · rw [if_pos e2] at hs
    obtain ⟨h1, h2⟩ := both hs
    obtain ⟨t, rfl⟩ := len1 h1
    obtain ⟨r1, r2, r3, rfl⟩ := len3 h2
    subst e2
    exact ⟨_, .period t r1 r2 r3⟩
  rw [if_neg e2] at hs
  by_cases e3 : p = 3
  · rw [if_pos e3] at hs
    obtain ⟨h1, h2⟩ := both hs
    obtain ⟨t, rfl⟩ := len1 h1
    obtain rfl := len0 h2
    subst e3
    exact ⟨_, .value t⟩
  rw [if_neg e3] at hs
  by_cases e4 : p = 4
  · rw [if_pos e4] at hs
    obtain ⟨h1, h2⟩ := both hs
    obtain ⟨t, u, rfl⟩ := len2 h1
    obtain rfl := len0 h2
    subst e4
    exact ⟨_, .linked t u⟩
  rw [if_neg e4] at hs
  by_cases e5 : p = 5
  · rw [if_pos e5] at hs
    obtain ⟨h1, h2⟩ := both hs
    obtain ⟨t, u, rfl⟩ := len2 h1
    obtain rfl := len0 h2
    subst e5
    exact ⟨_, .scaled t u⟩
  rw [if_neg e5] at hs
  by_cases e6 : p = 6
  · rw [if_pos e6] at hs
    obtain ⟨h1, h2⟩ := both hs
    obtain ⟨t, u, v, rfl⟩ := len3 h1
    obtain rfl := len0 h2
    subst e6
    exact ⟨_, .part t u v⟩
  rw [if_neg e6] at hs
  by_cases e7 : p = 7
  · rw [if_pos e7] at hs
    obtain ⟨h1, h2⟩ := both hs
    obtain ⟨t, u, rfl⟩ := len2 h1
    obtain rfl := len0 h2
    subst e7
    exact ⟨_, .bench t u⟩
  rw [if_neg e7] at hs
  by_cases e8 : p = 8
  · rw [if_pos e8] at hs
    obtain ⟨h1, h2⟩ := both hs
    obtain ⟨t, u, rfl⟩ := len2 h1
    obtain rfl := len0 h2
    subst e8
    exact ⟨_, .beats t u⟩
  rw [if_neg e8] at hs
  by_cases e9 : p = 9
  · rw [if_pos e9] at hs
    obtain ⟨h1, h2⟩ := both hs
    obtain ⟨t, u, rfl⟩ := len2 h1
    obtain rfl := len0 h2
    subst e9
    exact ⟨_, .made t u⟩
  rw [if_neg e9] at hs
  by_cases e10 : p = 10
  · rw [if_pos e10] at hs
    obtain ⟨h1, h2⟩ := both hs
    obtain rfl := len0 h1
    obtain rfl := len0 h2
    subst e10
    exact ⟨_, .irr⟩
  rw [if_neg e10] at hs
  by_cases e11 : p = 11
  · rw [if_pos e11] at hs
    obtain ⟨h1, h2⟩ := both hs
    obtain ⟨t, rfl⟩ := len1 h1
    obtain rfl := len0 h2
    subst e11
    exact ⟨_, .sign t⟩
  rw [if_neg e11] at hs
  by_cases e12 : p = 12
  · rw [if_pos e12] at hs
    obtain ⟨h1, h2⟩ := both hs
    obtain rfl := len0 h1
    obtain rfl := len0 h2
    subst e12
    exact ⟨_, .fall⟩
  rw [if_neg e12] at hs
  by_cases e13 : p = 13
  · rw [if_pos e13] at hs
    obtain ⟨h1, h2⟩ := both hs
    obtain ⟨t, u, rfl⟩ := len2 h1
    obtain rfl := len0 h2
    subst e13
    exact ⟨_, .dietz t u⟩
  rw [if_neg e13] at hs
  by_cases e14 : p = 14
  · rw [if_pos e14] at hs
    obtain ⟨h1, h2⟩ := both hs
    obtain rfl := len0 h1
    obtain rfl := len0 h2
    subst e14
    exact ⟨_, .counts⟩
  rw [if_neg e14] at hs
  cases hs
/-! ### an answer is short -/
theorem onEnds_len {s : State} {j k : Int} {f : Nat → Nat → State × Vbfuan.Ans} {n : Nat} (hn : 1 ≤ n) (h : ∀ a b, (f a b).2.length ≤ n) : (Vbfuan.onEnds s j k f).2.length ≤ n := by
  unfold Vbfuan.onEnds
  split
  · exact hn
  split
  · exact hn
  split
  · exact hn
  · exact h _ _
theorem ans_len (s : State) (d : Vbfuan.Call) : (Vbfuan.step s d).2.length ≤ 8 := by
  cases d with
  | begin l =>
    show (if _ then Vbfuan.no s 2 else _ : State × Vbfuan.Ans).2.length ≤ 8
    split <;> exact (by show 1 ≤ 8; decide)
  | weights l =>
    show (if _ then Vbfuan.no s 2 else _ : State × Vbfuan.Ans).2.length ≤ 8
    split <;> exact (by show 1 ≤ 8; decide)
  | period t e f b =>
    rw [step_period]
    split <;> exact (by show 1 ≤ 8; decide)
  | value k => exact onEnds_len (by decide) fun _ _ => (by show 3 ≤ 8; decide)
  | linked j k => exact onEnds_len (by decide) fun _ _ => (by show 2 ≤ 8; decide)
  | scaled j k => exact onEnds_len (by decide) fun _ _ => (by show 1 ≤ 8; decide)
  | part j k i =>
    show (if _ then Vbfuan.no s 1 else _ : State × Vbfuan.Ans).2.length ≤ 8
    split
    · exact (by show 1 ≤ 8; decide)
    · exact onEnds_len (by decide) fun _ _ => (by show 3 ≤ 8; decide)
  | bench j k => exact onEnds_len (by decide) fun _ _ => (by show 2 ≤ 8; decide)
  | beats j k => exact onEnds_len (by decide) fun _ _ => (by show 1 ≤ 8; decide)
  | made k i =>
    show (if _ then Vbfuan.no s 1 else _ : State × Vbfuan.Ans).2.length ≤ 8
    split
    · exact (by show 1 ≤ 8; decide)
    · refine onEnds_len (by decide) fun _ m => ?_
      show (if m = 0 then Vbfuan.no s 6 else _ : State × Vbfuan.Ans).2.length ≤ 8
      split
      · exact (by show 1 ≤ 8; decide)
      · exact (by show 7 ≤ 8; decide)
  | irr =>
    show (if _ then Vbfuan.no s 9 else if _ then Vbfuan.no s 9 else _ : State × Vbfuan.Ans).2.length ≤ 8
    split
    · exact (by show 1 ≤ 8; decide)
    split <;> exact (by show 1 ≤ 8; decide)
  | sign n =>
    show (if _ then Vbfuan.no s 1 else if _ then Vbfuan.no s 9 else _ : State × Vbfuan.Ans).2.length ≤ 8
    split
    · exact (by show 1 ≤ 8; decide)
    split <;> exact (by show 1 ≤ 8; decide)
  | fall => exact (by show 4 ≤ 8; decide)
  | dietz j k =>
    refine onEnds_len (by decide) fun a b => ?_
    show (if _ then Vbfuan.no s 6 else if _ then Vbfuan.no s 9 else _ : State × Vbfuan.Ans).2.length ≤ 8
    split
    · exact (by show 1 ≤ 8; decide)
    split
    · exact (by show 1 ≤ 8; decide)
    · exact (by show 3 ≤ 8; decide)
  | counts => exact (by show 3 ≤ 8; decide)
/-! ### a row is no longer than the whole -/
theorem putRows_len : ∀ {xs : List (List Int)} {r : List Int}, r ∈ xs → r.length ≤ (PyFlat.putRows xs).length
  | x :: xs, r, h => by
    show r.length ≤ ((x.length : Int) :: x ++ PyFlat.putRows xs).length
    rw [List.length_append, List.length_cons]
    rcases List.mem_cons.mp h with rfl | h
    · omega
    · have := putRows_len h
      omega
theorem put1_len : ∀ {c : List (List Int)} {r : List Int}, r ∈ c → r.length ≤ (PyFlat.put1 c).length
  | h :: xs, r, q => by
    show r.length ≤ (h ++ PyFlat.putRows xs).length
    rw [List.length_append]
    rcases List.mem_cons.mp q with rfl | q
    · omega
    · have := putRows_len q
      omega
section
variable {P : Program} {w : World} {K : PySem.W.Frag} {mg : Str → Option Value} {base : Heap} {CE CF CR : Addr}
def spAN (K : PySem.W.Frag) : Sp := fun vs H Q _ => ∃ (a : Addr) (cs : List (List (List Int))), vs = [.ref a] ∧ InL K H a (PyFlat.put cs) ∧ (∀ c ∈ cs, PyFlat.okCall PyVbfuan.shape c) ∧ (PyFlat.put cs).length ≤ 100000 ∧ cs.length ≤ 1000 ∧
  ∀ H' l, LI H' l (PyFlat.told (PyFlat.played VbfuanNeutral.step VbfuanNeutral.start cs)) → Q (.ref l) H'
theorem fund_refs {H : Hp} {p ea : Addr} {s : State} (x : FundS CE CF H p ea s) : ∃ as : List Addr, H ea = some (.lst (as.map V.ref)) ∧ as ≠ [] := by
  obtain ⟨as, h1, h2, _⟩ := x.lst
  refine ⟨as, h1, fun z => ?_⟩
  rw [z, endsOf_length] at h2
  exact absurd h2 (by show ¬ 0 = _; omega)
theorem FundAt.apart_new {H : Hp} {p ea t : Addr} {ws : List Int} {es : List EndV} (x : FundAt CE CF H p ea ws es) (nt : H t = Option.none) : Apart H p t := by
  obtain ⟨dx, wa, h1, h2⟩ := x.fund
  obtain ⟨as, h3, h4, h5⟩ := x.lst
  intro C' dx' wa' ea' q
  obtain ⟨e1, e2⟩ := fundF_inj (ins_inj h1 q)
  subst e1 e2
  refine ⟨ne_of_none h2 nt, ne_of_none h3 nt, fun as' q' b hb => ?_⟩
  have e := refs_inj (lst_inj h3 q')
  subst e
  obtain ⟨i, hi⟩ := List.mem_iff_getElem?.mp hb
  have hi' : i < es.length := by
    rw [← h4]
    exact (List.getElem?_eq_some_iff.mp hi).1
  obtain ⟨dxe, b', hh, ff, g1, g2, g3, g4⟩ := (h5 i b _ hi (List.getElem?_eq_getElem hi')).ex
  intro C2 dx2 tm2 b2 h2' f2 q2
  obtain ⟨_, e1, e2, e3⟩ := endF_inj (ins_inj g1 q2)
  subst e1 e2 e3
  exact ⟨ne_of_none g2 nt, ne_of_none g3 nt, ne_of_none g4 nt⟩
/-- what stands at t alone has changed, and t is none of the fund's -/
theorem FundAt.off {H H' : Hp} {p ea t : Addr} {ws : List Int} {es : List EndV} {xs : List V} (x : FundAt CE CF H p ea ws es) (A : Apart H p t) (ht : H t = some (.lst xs)) (k : Kept H H' t) : FundAt CE CF H' p ea ws es ∧ Apart H' p t := by
  obtain ⟨dx, wa, h1, h2⟩ := id x.fund
  obtain ⟨as, h3, h4, h5⟩ := id x.lst
  obtain ⟨a1, a2, a3⟩ := A _ _ _ _ h1
  have nI : ∀ {c C dx : Addr} {fs : List (Str × V)}, H c = some (.ins C dx fs) → c ≠ t := fun h => ne_of h ht (by intro z; cases z)
  refine ⟨⟨⟨dx, wa, k _ _ h1 (nI h1), k _ _ h2 a1⟩, as, k _ _ h3 a2, h4, fun i b e hb he => ?_⟩, A.move x (fun o h => ?_) (fun o h => k _ _ h a2) fun _ _ _ _ _ _ h => k _ _ h (nI h)⟩
  · obtain ⟨dxe, b', hh, ff, g1, g2, g3, g4⟩ := (h5 i b e hb he).ex
    obtain ⟨n1, n2, n3⟩ := a3 as h3 b (List.mem_of_getElem? hb) _ _ _ _ _ _ g1
    exact ⟨dxe, b', hh, ff, k _ _ g1 (nI g1), k _ _ g2 n1, k _ _ g3 n2, k _ _ g4 n3⟩
  · exact k _ _ h (nI h1)
theorem RdAt.off {H H' : Hp} {r t : Addr} {rest : List Int} {xs : List V} (hr : RdAt K CR H r rest) (ht : H t = some (.lst xs)) (k : Kept H H' t) : RdAt K CR H' r rest := by
  obtain ⟨dxr, a, ns, pos, h1, h2, h3⟩ := hr.ex
  exact ⟨dxr, a, ns, pos, k _ _ h1 (ne_of h1 ht (by intro z; cases z)), h2.keep fun o h => k _ _ h (ne_of h ht (by intro z; cases z)), h3⟩
theorem ok_AN {n : Nat} {f : Addr} {fd : FuncData} (F : Fun K "answers" "answers" sAN f fd) (T : Txt K mg CE CF CR) (c_Reader : Mkr P w K mg base CR "Reader" n ["self", "numbers"] (spRI K CR)) (c_Fund : Mkr P w K mg base CF "Fund" n ["self"] (spFI CE CF))
    (m_has_more : Mth P w K mg base CR "has_more" (n + 1) ["self"] (spHM K CR)) (c_answer_call : Cal P w K mg base "answer_call" (n + 1) ["fund", "reader"] (spAL K CE CF CR)) : FnOk P w K mg base CX0 (n + 2) f fd ["calls"] (spAN K) := by
  refine F.ok scAN (fun vs H Q E h => ?_) (fun cdv A outer s H vs Q E hr h => ?_)
  · obtain ⟨a, cs, rfl, _⟩ := h
    rfl
  · obtain ⟨a, cs, rfl, ha, hok, hlen, hcs, k⟩ := h
    refine ⟨_, (pss_cons (ps_set (i := 1) scAN.nd rfl (Or.inl rfl) (pe_mkr c_Reader hr rfl (pa_cons (pv 0) pa_nil)))
        (pss_cons (ps_set (i := 2) scAN.nd rfl (Or.inl rfl) (pe_mkr0 c_Fund hr rfl))
        (pss_cons (ps_set (i := 3) scAN.nd rfl (Or.inl rfl) (pe_lst pa_nil))
        (pss_cons (ps_while PassesOwn.never (pt_val (pe_mth0 m_has_more hr (pv 1))) (pss_cons (ps_set (i := 4) scAN.nd rfl (Or.inl rfl) (pe_cal c_answer_call hr rfl (pa_cons (pv 2) (pa_cons (pv 1) pa_nil))))
        (pss_cons (ps_expr (pe_bm PySem.F.plainAttrs_list PySem.F.slot_list_append PySem.F.type_list_append mt_append (pv 3) (pa_cons (pe_callB call_len_seq (by rfl) T.nlen PySem.boot_len (pa_cons (pv 4) pa_nil)) pa_nil)))
        (pss_one (ps_expr (pe_bm PySem.F.plainAttrs_list PySem.F.slot_list_extend PySem.F.type_list_extend mt_extend (pv 3) (pa_cons (pv 4) pa_nil)))))))
        (pss_one (ps_ret (pv 3))))))), ?_⟩
    refine ⟨_, rfl, ?_⟩
    intro r dxr nr ndr ner
    have s1 : Same H (upd (upd H dxr (.own r)) r (.ins CR dxr [])) := (same_new ndr).trans (same_new (by rw [upd_ne (fun q => ner q.symm)]; exact nr))
    refine ⟨r, dxr, a, PyFlat.put cs, rfl, upd_same, ha.keep fun o h => s1 _ _ h, fun H1 R1 k1 => ⟨rfl, ?_⟩⟩
    intro p dxp np ndp nep
    have s2 : Same H1 (upd (upd H1 dxp (.own p)) p (.ins CF dxp [])) := (same_new ndp).trans (same_new (by rw [upd_ne (fun q => nep q.symm)]; exact np))
    refine ⟨p, dxp, rfl, upd_same, fun H2 ea F2 k2 => ⟨rfl, ?_⟩⟩
    have s3 : Same H1 H2 := fun c o e => k2 _ _ (s2 _ _ e) (ne_of_none e np)
    have F2 : FundS CE CF H2 p ea Vbfuan.start := F2
    refine ⟨Nat.zero_le _, fun t nt => ?_⟩
    have s4 : Same H2 (upd H2 t (.lst [])) := same_new nt
    refine ⟨fun m σ H' => ∃ (ea : Addr) (s : State) (cs' : List (List (List Int))) (out : List Int) (v : Option V), m = cs'.length ∧ σ = [some (.ref a), some (.ref r), some (.ref p), some (.ref t), v] ∧ FundS CE CF H' p ea s ∧ Apart H' p t ∧ Good s ∧ RdAt K CR H' r (PyFlat.put cs') ∧ LI H' t out ∧
      out ++ PyFlat.told (PyFlat.played VbfuanNeutral.step s cs') = PyFlat.told (PyFlat.played VbfuanNeutral.step VbfuanNeutral.start cs) ∧ (∀ c ∈ cs', PyFlat.okCall PyVbfuan.shape c ∧ ∀ row ∈ c, row.length ≤ 100000) ∧ out.length + 9 * cs'.length ≤ 9000,
      ⟨_, ea, Vbfuan.start, cs, [], none, rfl, rfl, F2.same s4, Apart.same (F2.apart_new nt) F2 s4, good_start, (R1.same s3).same s4, upd_same, rfl, fun c hc => ⟨hok c hc, fun row hrow => ?_⟩, by show 0 + 9 * cs.length ≤ 9000; omega⟩, ?_⟩
    · have h1 := put1_len hrow
      have h2 : (PyFlat.put1 c).length ≤ (PyFlat.put cs).length := by
        clear k hok hlen hcs ha R1
        induction cs with
        | nil => cases hc
        | cons d ds ih =>
          show _ ≤ (PyFlat.put1 d ++ PyFlat.put ds).length
          rw [List.length_append]
          rcases List.mem_cons.mp hc with rfl | hc
          · omega
          · have := ih hc
            omega
      omega
    · rintro m σ H' ⟨ea, s, cs', out, v, rfl, rfl, hF, hA, hG, hR, ht, hout, hall, hsz⟩
      obtain ⟨dx, ra, pos, hr1⟩ := hR.ins
      refine ⟨_, rfl, r, dx, _, rfl, hr1, readF_no (by decide +kernel) (by decide +kernel), r, _, rfl, hR, _, rfl, ?_⟩
      match cs', hR, hout, hall, hsz with
      | [], hR, hout, hall, hsz =>
        refine iteF ?_
        refine ⟨_, rfl, ?_⟩
        refine k H' t ?_
        have e : out = PyFlat.told (PyFlat.played VbfuanNeutral.step VbfuanNeutral.start cs) := by
          rw [← hout]
          exact (List.append_nil out).symm
        rw [← e]
        exact ht
      | c :: cs', hR, hout, hall, hsz =>
        have hc := hall c (List.Mem.head _)
        have ne : (!(PyFlat.put (c :: cs')).isEmpty) = true := by
          obtain ⟨p0, a0, xs0, rfl, _⟩ := hc.1
          rfl
        rw [ne]
        refine iteT ?_
        refine ⟨fun σ' H2 => ∃ (ea : Addr) (s : State) (out : List Int) (v : Option V), σ' = [some (.ref a), some (.ref r), some (.ref p), some (.ref t), v] ∧ FundS CE CF H2 p ea s ∧ Apart H2 p t ∧ Good s ∧ RdAt K CR H2 r (PyFlat.put cs') ∧ LI H2 t out ∧
          out ++ PyFlat.told (PyFlat.played VbfuanNeutral.step s cs') = PyFlat.told (PyFlat.played VbfuanNeutral.step VbfuanNeutral.start cs) ∧ out.length + 9 * cs'.length ≤ 9000,
          fun σ' H2 ⟨ea, s, out, v, e1, e2, eA, e3, e4, e5, e6, e7⟩ => ⟨cs'.length, Nat.lt_succ_self _, ea, s, cs', out, v, rfl, e1, e2, eA, e3, e4, e5, e6, fun c hc => hall c (List.Mem.tail _ hc), e7⟩, ?_⟩
        refine ⟨_, rfl, _, rfl, p, ea, r, s, c, PyFlat.put cs', rfl, hF, hG, hR, hc.1, hc.2, fun H2 ea' l F3 G3 R3 k3 a3 fl hl => ?_⟩
        obtain ⟨_, npr, ner⟩ := hF.kept hR (H' := H') fun c o e _ => e
        obtain ⟨as, hea, has⟩ := fund_refs hF
        obtain ⟨dxp', wa', hp', _⟩ := hF.fund
        have tp : t ≠ p := ne_of ht hp' (by intro z; cases z)
        have tr : t ≠ r := ne_of ht hr1 (by intro z; cases z)
        have te : t ≠ ea := ne_of ht hea (ints_ne_refs has)
        have ht2 : LI H2 t out := k3 _ _ ht tp te tr
        have tl : t ≠ l := ne_of_none ht fl
        obtain ⟨d, hd⟩ := form_of hc.1
        have al : (VbfuanNeutral.step s c).2.length ≤ 8 := by rw [hd.step]; exact ans_len _ _
        have hsz' : out.length + 9 * (cs'.length + 1) ≤ 9000 := hsz
        have big : 9000 ≤ sizeLine := by decide
        refine ⟨_, rfl, .inl ⟨rfl, _, SqL.of ht2⟩, _, rfl, l, _, rfl, .inl (SqL.of hl), t, _, _, rfl, rfl, ht2, (by rw [List.length_map]; omega), ?_⟩
        have hl3 : (upd H2 t (.lst (out.map V.int ++ [V.int (((VbfuanNeutral.step s c).2.map V.int).length : Nat)]))) l = some (.lst ((VbfuanNeutral.step s c).2.map V.int)) := by
          rw [upd_ne (fun z => tl z.symm)]
          exact hl
        refine ⟨_, rfl, .inl ⟨rfl, _, SqL.of upd_same⟩, _, rfl, t, l, _, _, rfl, rfl, upd_same, hl3, (by rw [List.length_append, List.length_map, List.length_map]; show out.length + 1 + _ ≤ sizeLine; omega), ?_⟩
        have kt : Kept H2 (upd (upd H2 t (.lst (out.map V.int ++ [V.int (((VbfuanNeutral.step s c).2.map V.int).length : Nat)]))) t (.lst ((out.map V.int ++ [V.int (((VbfuanNeutral.step s c).2.map V.int).length : Nat)]) ++ (VbfuanNeutral.step s c).2.map V.int))) t := kept_upd.trans kept_upd
        obtain ⟨F4, A4⟩ := F3.off (a3 t _ ht hA) ht2 kt
        refine ⟨ea', _, out ++ (((VbfuanNeutral.step s c).2.length : Int) :: (VbfuanNeutral.step s c).2), _, rfl, F4, A4, G3, R3.off ht2 kt, ?_, ?_, ?_⟩
        · rw [LI, upd_same, List.length_map, List.map_append, List.append_assoc]
          rfl
        · rw [← hout]
          show out ++ _ ++ PyFlat.told (PyFlat.played VbfuanNeutral.step (VbfuanNeutral.step s c).1 cs') = out ++ (((VbfuanNeutral.step s c).2.length : Int) :: (VbfuanNeutral.step s c).2 ++ PyFlat.told (PyFlat.played VbfuanNeutral.step (VbfuanNeutral.step s c).1 cs'))
          rw [List.append_assoc]
        · rw [List.length_append, List.length_cons]
          omega
end
end FB
end
section
set_option maxRecDepth 100000
set_option maxHeartbeats 4000000
namespace FB
open PySem PySem.Spec PyProof.Rows L2
open Vbfuan (State count)
section
variable {P : Program} {w : World} {K : PySem.W.Frag} {mg : Str → Option Value} {base : Heap} {CE CF CR : Addr}
theorem rd_not_end {H : Hp} {r a dx : Addr} {rest : List Int} {tm : Int} {b h f C : Addr} (hR : RdAt K CR H r rest) (g : H a = some (.ins C dx (endF tm b h f))) : a ≠ r := by
  obtain ⟨dxr, ra, pos, hr⟩ := hR.ins
  refine ne_of g hr fun z => ?_
  injection z with _ _ z3
  have z4 := congrArg (fun fs => List.lookup ("time" : Str) fs) z3
  simp only [endF_time, readF_no (x := "time") (by decide +kernel) (by decide +kernel)] at z4
  cases z4
/-- what is wanted of a whole call, from ahead of the numbers' taking, as it is wanted of the part behind it -/
theorem Answers.moves {H H1 : Hp} {p ea r : Addr} {s s' : State} {tail rest ans : List Int} {Q : VK} {rs : List Addr} {ws : List Int} {es : List EndV} (A : Answers K CE CF CR H p ea r s' rest ans Q) (hF : FundS CE CF H p ea s) (hR : RdAt K CR H r tail) (k1 : Kept H H1 r)
    (R1 : RdAt K CR H1 r rest) (g : Good s') (ew : ws = toZ s'.weights) (ee : es = endsOf s') (fr : ∀ c ∈ rs, H c = Option.none) : Moves CE CF H1 p ea rs ws es ans Q := by
  subst ew ee
  intro H2 ea' l F2 k2 a2 fl hl
  obtain ⟨F1, np, ne⟩ := hF.kept hR k1
  obtain ⟨dx1, b1, pos1, hr1⟩ := R1.ins
  refine A H2 ea' l F2 g (R1.moved F1 k2) (fun c o e n1 n2 n3 => k2 _ _ (k1 _ _ e n3) n1 n2) (fun t o ht Ap => ?_) (free_kept k1 hr1 fl) hl
  have A1 : Apart H1 p t := Ap.move hF (fun o h => k1 _ _ h np) (fun o h => k1 _ _ h ne) fun _ _ _ _ _ _ h => k1 _ _ h (rd_not_end hR h)
  have nt : t ∉ rs := fun z => by
    rw [fr t z] at ht
    cases ht
  by_cases tr : t = r
  · subst tr
    exact a2 t _ hr1 nt A1
  · exact a2 t o (k1 _ _ ht tr) nt A1
theorem Answers.tells {H H1 : Hp} {p ea r : Addr} {s : State} {d : Vbfuan.Call} {tail rest : List Int} {Q : VK} (A : Answers K CE CF CR H p ea r (Vbfuan.step s d).1 rest (Vbfuan.step s d).2 Q) (hF : FundS CE CF H p ea s) (hR : RdAt K CR H r tail) (k1 : Kept H H1 r)
    (R1 : RdAt K CR H1 r rest) (g : Good s) (e : (Vbfuan.step s d).1 = s) : Tells CE CF H1 p d Q := by
  rw [e] at A
  exact ⟨ea, s, (hF.kept hR k1).1, g, (A.moves hF hR k1 R1 g rfl rfl (rs := []) (fun c h => by cases h)).gives (hF.kept hR k1).1⟩
theorem onEnds_same {s : State} {j k : Int} {f : Nat → Nat → State × Vbfuan.Ans} (h : ∀ a b, (f a b).1 = s) : (Vbfuan.onEnds s j k f).1 = s := by
  unfold Vbfuan.onEnds
  split
  · rfl
  split
  · rfl
  split
  · rfl
  · exact h _ _
theorem same_value {s : State} {k : Int} : (Vbfuan.step s (.value k)).1 = s := onEnds_same fun _ _ => rfl
theorem same_linked {s : State} {j k : Int} : (Vbfuan.step s (.linked j k)).1 = s := onEnds_same fun _ _ => rfl
theorem same_scaled {s : State} {j k : Int} : (Vbfuan.step s (.scaled j k)).1 = s := onEnds_same fun _ _ => rfl
theorem same_bench {s : State} {j k : Int} : (Vbfuan.step s (.bench j k)).1 = s := onEnds_same fun _ _ => rfl
theorem same_beats {s : State} {j k : Int} : (Vbfuan.step s (.beats j k)).1 = s := onEnds_same fun _ _ => rfl
theorem same_part {s : State} {j k i : Int} : (Vbfuan.step s (.part j k i)).1 = s := by
  show (if _ then Vbfuan.no s 1 else _ : State × Vbfuan.Ans).1 = s
  split
  · rfl
  · exact onEnds_same fun _ _ => rfl
theorem same_made {s : State} {k i : Int} : (Vbfuan.step s (.made k i)).1 = s := by
  show (if _ then Vbfuan.no s 1 else _ : State × Vbfuan.Ans).1 = s
  split
  · rfl
  · refine onEnds_same fun _ m => ?_
    show (if m = 0 then Vbfuan.no s 6 else _ : State × Vbfuan.Ans).1 = s
    split <;> rfl
theorem same_irr {s : State} : (Vbfuan.step s .irr).1 = s := by
  show (if _ then Vbfuan.no s 9 else if _ then Vbfuan.no s 9 else _ : State × Vbfuan.Ans).1 = s
  split
  · rfl
  split <;> rfl
theorem same_sign {s : State} {n : Int} : (Vbfuan.step s (.sign n)).1 = s := by
  show (if _ then Vbfuan.no s 1 else if _ then Vbfuan.no s 9 else _ : State × Vbfuan.Ans).1 = s
  split
  · rfl
  split <;> rfl
theorem same_dietz {s : State} {j k : Int} : (Vbfuan.step s (.dietz j k)).1 = s := by
  refine onEnds_same fun a b => ?_
  show (if _ then Vbfuan.no s 6 else if _ then Vbfuan.no s 9 else _ : State × Vbfuan.Ans).1 = s
  split
  · rfl
  split <;> rfl
/-- a call whose number is taken already -/
def spD (K : PySem.W.Frag) (CE CF CR : Addr) (ok : Int → Prop) : Sp := fun vs H Q _ => ∃ (p ea r : Addr) (s : State) (c : List (List Int)) (d : Vbfuan.Call) (code : Int) (tail rest : List Int), vs = [.ref p, .ref r, .int code] ∧ ok code ∧ FundS CE CF H p ea s ∧ Good s ∧ Form c d ∧ PyFlat.put1 c ++ rest = code :: tail ∧
  (∀ row ∈ c, row.length ≤ 100000) ∧ RdAt K CR H r tail ∧ Answers K CE CF CR H p ea r (Vbfuan.step s d).1 rest (Vbfuan.step s d).2 Q
/-! #### answer_change -/
abbrev sAC : Stmt := top 101
theorem scAC : FnScope ["fund", "reader", "call", "time", "before", "flows", "factors"] ["fund", "reader", "call"] (defScope sAC) := ⟨rfl, rfl, rfl, by decide +kernel, rfl, by decide +kernel, by decide +kernel⟩
theorem ok_AC {n : Nat} {f : Addr} {fd : FuncData} (F : Fun K "answer_change" "answer_change" sAC f fd) (T : Txt K mg CE CF CR) (m_take_row : Mth P w K mg base CR "take_row" n ["self"] (spTR K CR)) (m_take_number : Mth P w K mg base CR "take_number" n ["self"] (spTN K CR))
    (c_begin : Cal P w K mg base "begin" n ["fund", "parts"] (spBE CE CF)) (c_change_weights : Cal P w K mg base "change_weights" n ["fund", "row"] (spCW CE CF)) (c_add_period : Cal P w K mg base "add_period" n ["fund", "time", "before", "flows", "factors"] (spAP CE CF)) :
    FnOk P w K mg base CX0 (n + 1) f fd ["fund", "reader", "call"] (spD K CE CF CR fun c => c = 0 ∨ c = 1 ∨ c = 2) := by
  refine F.ok scAC (fun vs H Q E h => ?_) (fun cdv A outer s H vs Q E hr h => ?_)
  · obtain ⟨p, ea, r, s, c, d, code, tail, rest, rfl, _⟩ := h
    rfl
  · obtain ⟨p, ea, r, s, c, d, code, tail, rest, rfl, hok, hF, hG, hform, htail, hrows, hR, hA⟩ := h
    refine ⟨_, (pss_cons (ps_if (pt_cmpR op_eq (pv 2) (pe_const T.c_BEGIN rfl) (nomark _)) (pss_one (ps_ret (pe_cal c_begin hr rfl (pa_cons (pv 0) (pa_cons (pe_mth0 m_take_row hr (pv 1)) pa_nil))))) pss_nil)
        (pss_cons (ps_if (pt_cmpR op_eq (pv 2) (pe_const T.c_WEIGHTS rfl) (nomark _)) (pss_one (ps_ret (pe_cal c_change_weights hr rfl (pa_cons (pv 0) (pa_cons (pe_mth0 m_take_row hr (pv 1)) pa_nil))))) pss_nil)
        (pss_cons (ps_set (i := 3) scAC.nd rfl (Or.inl rfl) (pe_mth0 m_take_number hr (pv 1)))
        (pss_cons (ps_set (i := 4) scAC.nd rfl (Or.inl rfl) (pe_mth0 m_take_row hr (pv 1)))
        (pss_cons (ps_set (i := 5) scAC.nd rfl (Or.inl rfl) (pe_mth0 m_take_row hr (pv 1)))
        (pss_cons (ps_set (i := 6) scAC.nd rfl (Or.inl rfl) (pe_mth0 m_take_row hr (pv 1)))
        (pss_one (ps_ret (pe_cal c_add_period hr rfl (pa_cons (pv 0) (pa_cons (pv 3) (pa_cons (pv 4) (pa_cons (pv 5) (pa_cons (pv 6) pa_nil)))))))))))))), ?_⟩
    obtain ⟨dxr, ra, pos, hr1⟩ := id hR.ins
    have noM : ∀ {a : Addr} {q : Int}, (readF a q).lookup ("take_row" : Str) = Option.none := readF_no (by decide +kernel) (by decide +kernel)
    have noN : ∀ {a : Addr} {q : Int}, (readF a q).lookup ("take_number" : Str) = Option.none := readF_no (by decide +kernel) (by decide +kernel)
    have inj : ∀ {x : Int} {l : List Int}, x :: l = code :: tail → x = code ∧ l = tail := fun h => by
      injection h with h1 h2
      exact ⟨h1, h2⟩
    cases hform with
    | begin l =>
      obtain ⟨rfl, rfl⟩ := inj (show (0 : Int) :: (PyFlat.putRow l ++ [] ++ rest) = code :: tail from htail)
      rw [List.append_nil] at hR
      refine ⟨_, rfl, rfl, _, rfl, iteEq (fun _ => ?_) (fun z => absurd rfl z)⟩
      refine ⟨_, rfl, _, rfl, r, dxr, _, rfl, hr1, noM, r, l, rest, rfl, hR, fun H1 a R1 ha k1 fa => ?_⟩
      obtain ⟨F1, _, _⟩ := hF.kept hR k1
      refine ⟨p, ea, a, _, _, l, rfl, F1, ha, hrows l (by simp), fun q => ?_, fun q => ?_⟩
      · rw [step_begin_bad q] at hA
        exact (hA.moves hF hR k1 R1 hG rfl rfl (rs := []) (fun c h => by cases h)).gives F1
      · rw [step_begin_good q] at hA
        obtain ⟨g', e1, e2⟩ := began_ok q
        exact hA.moves hF hR k1 R1 g' e2.symm e1.symm (fun c h => by rw [List.mem_singleton.mp h]; exact fa)
    | weights l =>
      obtain ⟨rfl, rfl⟩ := inj (show (1 : Int) :: (PyFlat.putRow l ++ [] ++ rest) = code :: tail from htail)
      rw [List.append_nil] at hR
      refine ⟨_, rfl, rfl, _, rfl, iteEq (fun z => absurd z (by decide)) (fun _ => ?_)⟩
      refine ⟨_, rfl, rfl, _, rfl, iteEq (fun _ => ?_) (fun z => absurd rfl z)⟩
      refine ⟨_, rfl, _, rfl, r, dxr, _, rfl, hr1, noM, r, l, rest, rfl, hR, fun H1 a R1 ha k1 fa => ?_⟩
      obtain ⟨F1, _, _⟩ := hF.kept hR k1
      refine ⟨p, ea, a, _, _, _, l, rfl, F1, endsOf_at (Nat.zero_le _), ha, hrows l (by simp), ?_, ?_⟩
      · rw [e0_before]
        intro q
        rw [step_weights_bad q] at hA
        exact (hA.moves hF hR k1 R1 hG rfl rfl (rs := []) (fun c h => by cases h)).gives F1
      · rw [e0_before]
        intro q
        rw [step_weights_good q] at hA
        obtain ⟨g', e1, e2⟩ := weighed_ok hG q
        exact hA.moves hF hR k1 R1 g' e2.symm e1.symm (fun c h => by rw [List.mem_singleton.mp h]; exact fa)
    | period t e f b =>
      obtain ⟨rfl, rfl⟩ := inj (show (2 : Int) :: (t :: (PyFlat.putRow e ++ (PyFlat.putRow f ++ (PyFlat.putRow b ++ []))) ++ rest) = code :: tail from htail)
      have hR' : RdAt K CR H r (t :: (PyFlat.putRow e ++ (PyFlat.putRow f ++ (PyFlat.putRow b ++ rest)))) := by
        have : t :: (PyFlat.putRow e ++ (PyFlat.putRow f ++ (PyFlat.putRow b ++ []))) ++ rest = t :: (PyFlat.putRow e ++ (PyFlat.putRow f ++ (PyFlat.putRow b ++ rest))) := by simp
        rw [← this]
        exact hR
      refine ⟨_, rfl, rfl, _, rfl, iteEq (fun z => absurd z (by decide)) (fun _ => ?_)⟩
      refine ⟨_, rfl, rfl, _, rfl, iteEq (fun z => absurd z (by decide)) (fun _ => ?_)⟩
      refine ⟨_, rfl, r, dxr, _, rfl, hr1, noN, r, t, _, rfl, hR', fun H1 R1 k1 => ?_⟩
      obtain ⟨dx1, ra1, pos1, hr2⟩ := id R1.ins
      refine ⟨_, rfl, r, dx1, _, rfl, hr2, noM, r, e, _, rfl, R1, fun H2 a R2 ha k2 fa => ?_⟩
      obtain ⟨dx2, ra2, pos2, hr3⟩ := id R2.ins
      refine ⟨_, rfl, r, dx2, _, rfl, hr3, noM, r, f, _, rfl, R2, fun H3 b' R3 hb k3 fb => ?_⟩
      obtain ⟨dx3, ra3, pos3, hr4⟩ := id R3.ins
      refine ⟨_, rfl, r, dx3, _, rfl, hr4, noM, r, b, _, rfl, R3, fun H4 c' R4 hc k4 fc => ?_⟩
      have K4 := ((k1.trans k2).trans k3).trans k4
      obtain ⟨F4, _, _⟩ := hF.kept hR' K4
      have nL : ∀ {H0 : Hp} {rest0 : List Int} {c0 : Addr} {ns : List Int}, RdAt K CR H0 r rest0 → LI H0 c0 ns → c0 ≠ r := fun R h => by
        obtain ⟨_, _, _, q⟩ := R.ins
        exact ne_of h q (by intro z; cases z)
      have ha4 : LI H4 a e := k4 _ _ (k3 _ _ ha (nL R2 ha)) (nL R2 ha)
      have hb4 : LI H4 b' f := k4 _ _ hb (nL R3 hb)
      have fr1 : H a = Option.none := free_kept k1 hr2 fa
      have fr2 : H b' = Option.none := free_kept (k1.trans k2) hr3 fb
      have fr3 : H c' = Option.none := free_kept ((k1.trans k2).trans k3) hr4 fc
      refine ⟨_, rfl, _, rfl, _, rfl, _, rfl, _, rfl, p, ea, a, b', c', t, _, _, _, _, e, f, b, rfl, F4, endsOf_at (Nat.zero_le _), (by rw [endsOf_length]; exact endsOf_at (Nat.le_refl _)), (by rw [e0_before]; exact hG.parts1), ha4, hb4, hc, hrows e (by simp), hrows f (by simp), hrows b (by simp), ?_, ?_⟩
      · rw [e0_before, endsOf_length]
        intro q
        have q' : ¬ rP s t e f b = 0 := q
        rw [step_period, if_neg q'] at hA
        exact (hA.moves hF hR' K4 R4 hG rfl rfl (rs := []) (fun c h => by cases h)).gives F4
      · rw [e0_before, endsOf_length]
        intro q
        have q' : rP s t e f b = 0 := q
        rw [step_period, if_pos q'] at hA
        obtain ⟨g', e1⟩ := period_ok hG q'
        refine hA.moves hF hR' K4 R4 g' rfl e1.symm (fun c h => ?_)
        simp only [List.mem_cons, List.not_mem_nil, or_false] at h
        rcases h with rfl | rfl | rfl
        · exact fr1
        · exact fr2
        · exact fr3
    | value k => obtain ⟨rfl, _⟩ := inj (show (3 : Int) :: _ = code :: tail from htail); omega
    | linked j k => obtain ⟨rfl, _⟩ := inj (show (4 : Int) :: _ = code :: tail from htail); omega
    | scaled j k => obtain ⟨rfl, _⟩ := inj (show (5 : Int) :: _ = code :: tail from htail); omega
    | part j k i => obtain ⟨rfl, _⟩ := inj (show (6 : Int) :: _ = code :: tail from htail); omega
    | bench j k => obtain ⟨rfl, _⟩ := inj (show (7 : Int) :: _ = code :: tail from htail); omega
    | beats j k => obtain ⟨rfl, _⟩ := inj (show (8 : Int) :: _ = code :: tail from htail); omega
    | made k i => obtain ⟨rfl, _⟩ := inj (show (9 : Int) :: _ = code :: tail from htail); omega
    | irr => obtain ⟨rfl, _⟩ := inj (show (10 : Int) :: _ = code :: tail from htail); omega
    | sign n => obtain ⟨rfl, _⟩ := inj (show (11 : Int) :: _ = code :: tail from htail); omega
    | fall => obtain ⟨rfl, _⟩ := inj (show (12 : Int) :: _ = code :: tail from htail); omega
    | dietz j k => obtain ⟨rfl, _⟩ := inj (show (13 : Int) :: _ = code :: tail from htail); omega
    | counts => obtain ⟨rfl, _⟩ := inj (show (14 : Int) :: _ = code :: tail from htail); omega
/-! #### answer_span -/
abbrev sAS : Stmt := top 102
theorem scAS : FnScope ["fund", "reader", "call", "j", "k"] ["fund", "reader", "call"] (defScope sAS) := ⟨rfl, rfl, rfl, by decide +kernel, rfl, by decide +kernel, by decide +kernel⟩
theorem ok_AS {n : Nat} {f : Addr} {fd : FuncData} (F : Fun K "answer_span" "answer_span" sAS f fd) (T : Txt K mg CE CF CR) (m_take_number : Mth P w K mg base CR "take_number" n ["self"] (spTN K CR)) (c_tell_linked : Cal P w K mg base "tell_linked" n ["fund", "j", "k"] (spTL CE CF)) (c_tell_scaled : Cal P w K mg base "tell_scaled" n ["fund", "j", "k"] (spTS CE CF)) (c_tell_part : Cal P w K mg base "tell_part" n ["fund", "j", "k", "part"] (spTP CE CF)) (c_tell_bench : Cal P w K mg base "tell_bench" n ["fund", "j", "k"] (spTB CE CF)) (c_tell_beats : Cal P w K mg base "tell_beats" n ["fund", "j", "k"] (spTBt CE CF)) (c_tell_dietz : Cal P w K mg base "tell_dietz" n ["fund", "j", "k"] (spTD CE CF)) :
    FnOk P w K mg base CX0 (n + 1) f fd ["fund", "reader", "call"] (spD K CE CF CR fun c => c = 4 ∨ c = 5 ∨ c = 6 ∨ c = 7 ∨ c = 8 ∨ c = 13) := by
  refine F.ok scAS (fun vs H Q E h => ?_) (fun cdv A outer s H vs Q E hr h => ?_)
  · obtain ⟨p, ea, r, s, c, d, code, tail, rest, rfl, _⟩ := h
    rfl
  · obtain ⟨p, ea, r, s, c, d, code, tail, rest, rfl, hok, hF, hG, hform, htail, hrows, hR, hA⟩ := h
    refine ⟨_, (pss_cons (ps_set (i := 3) scAS.nd rfl (Or.inl rfl) (pe_mth0 m_take_number hr (pv 1)))
        (pss_cons (ps_set (i := 4) scAS.nd rfl (Or.inl rfl) (pe_mth0 m_take_number hr (pv 1)))
        (pss_cons (ps_if (pt_cmpR op_eq (pv 2) (pe_const T.c_LINKED rfl) (nomark _)) (pss_one (ps_ret (pe_cal c_tell_linked hr rfl (pa_cons (pv 0) (pa_cons (pv 3) (pa_cons (pv 4) pa_nil)))))) pss_nil)
        (pss_cons (ps_if (pt_cmpR op_eq (pv 2) (pe_const T.c_SCALED rfl) (nomark _)) (pss_one (ps_ret (pe_cal c_tell_scaled hr rfl (pa_cons (pv 0) (pa_cons (pv 3) (pa_cons (pv 4) pa_nil)))))) pss_nil)
        (pss_cons (ps_if (pt_cmpR op_eq (pv 2) (pe_const T.c_PART rfl) (nomark _)) (pss_one (ps_ret (pe_cal c_tell_part hr rfl (pa_cons (pv 0) (pa_cons (pv 3) (pa_cons (pv 4) (pa_cons (pe_mth0 m_take_number hr (pv 1)) pa_nil))))))) pss_nil)
        (pss_cons (ps_if (pt_cmpR op_eq (pv 2) (pe_const T.c_BENCH rfl) (nomark _)) (pss_one (ps_ret (pe_cal c_tell_bench hr rfl (pa_cons (pv 0) (pa_cons (pv 3) (pa_cons (pv 4) pa_nil)))))) pss_nil)
        (pss_cons (ps_if (pt_cmpR op_eq (pv 2) (pe_const T.c_BEATS rfl) (nomark _)) (pss_one (ps_ret (pe_cal c_tell_beats hr rfl (pa_cons (pv 0) (pa_cons (pv 3) (pa_cons (pv 4) pa_nil)))))) pss_nil)
        (pss_one (ps_ret (pe_cal c_tell_dietz hr rfl (pa_cons (pv 0) (pa_cons (pv 3) (pa_cons (pv 4) pa_nil))))))))))))), ?_⟩
    obtain ⟨dxr, ra, pos, hr1⟩ := id hR.ins
    have noN : ∀ {a : Addr} {q : Int}, (readF a q).lookup ("take_number" : Str) = Option.none := readF_no (by decide +kernel) (by decide +kernel)
    have inj : ∀ {x : Int} {l : List Int}, x :: l = code :: tail → x = code ∧ l = tail := fun h => by
      injection h with h1 h2
      exact ⟨h1, h2⟩
    cases hform with
    | linked j k =>
      obtain ⟨rfl, rfl⟩ := inj (show (4 : Int) :: j :: k :: rest = code :: tail from htail)
      refine ⟨_, rfl, r, dxr, _, rfl, hr1, noN, r, j, _, rfl, hR, fun H1 R1 k1 => ?_⟩
      obtain ⟨dx1, ra1, pos1, hr2⟩ := id R1.ins
      refine ⟨_, rfl, r, dx1, _, rfl, hr2, noN, r, k, _, rfl, R1, fun H2 R2 k2 => ?_⟩
      refine ⟨_, rfl, rfl, _, rfl, iteEq (fun _ => ?_) (fun z => absurd rfl z)⟩
      exact ⟨_, rfl, _, rfl, _, rfl, p, j, k, rfl, hA.tells hF hR (k1.trans k2) R2 hG same_linked⟩
    | scaled j k =>
      obtain ⟨rfl, rfl⟩ := inj (show (5 : Int) :: j :: k :: rest = code :: tail from htail)
      refine ⟨_, rfl, r, dxr, _, rfl, hr1, noN, r, j, _, rfl, hR, fun H1 R1 k1 => ?_⟩
      obtain ⟨dx1, ra1, pos1, hr2⟩ := id R1.ins
      refine ⟨_, rfl, r, dx1, _, rfl, hr2, noN, r, k, _, rfl, R1, fun H2 R2 k2 => ?_⟩
      refine ⟨_, rfl, rfl, _, rfl, iteEq (fun z => absurd z (by decide)) (fun _ => ?_)⟩
      refine ⟨_, rfl, rfl, _, rfl, iteEq (fun _ => ?_) (fun z => absurd rfl z)⟩
      exact ⟨_, rfl, _, rfl, _, rfl, p, j, k, rfl, hA.tells hF hR (k1.trans k2) R2 hG same_scaled⟩
    | part j k i =>
      obtain ⟨rfl, rfl⟩ := inj (show (6 : Int) :: j :: k :: i :: rest = code :: tail from htail)
      refine ⟨_, rfl, r, dxr, _, rfl, hr1, noN, r, j, _, rfl, hR, fun H1 R1 k1 => ?_⟩
      obtain ⟨dx1, ra1, pos1, hr2⟩ := id R1.ins
      refine ⟨_, rfl, r, dx1, _, rfl, hr2, noN, r, k, _, rfl, R1, fun H2 R2 k2 => ?_⟩
      refine ⟨_, rfl, rfl, _, rfl, iteEq (fun z => absurd z (by decide)) (fun _ => ?_)⟩
      refine ⟨_, rfl, rfl, _, rfl, iteEq (fun z => absurd z (by decide)) (fun _ => ?_)⟩
      refine ⟨_, rfl, rfl, _, rfl, iteEq (fun _ => ?_) (fun z => absurd rfl z)⟩
      obtain ⟨dx2, ra2, pos2, hr3⟩ := id R2.ins
      refine ⟨_, rfl, _, rfl, _, rfl, _, rfl, r, dx2, _, rfl, hr3, noN, r, i, _, rfl, R2, fun H3 R3 k3 => ?_⟩
      exact ⟨p, j, k, i, rfl, hA.tells hF hR ((k1.trans k2).trans k3) R3 hG same_part⟩
    | bench j k =>
      obtain ⟨rfl, rfl⟩ := inj (show (7 : Int) :: j :: k :: rest = code :: tail from htail)
      refine ⟨_, rfl, r, dxr, _, rfl, hr1, noN, r, j, _, rfl, hR, fun H1 R1 k1 => ?_⟩
      obtain ⟨dx1, ra1, pos1, hr2⟩ := id R1.ins
      refine ⟨_, rfl, r, dx1, _, rfl, hr2, noN, r, k, _, rfl, R1, fun H2 R2 k2 => ?_⟩
      refine ⟨_, rfl, rfl, _, rfl, iteEq (fun z => absurd z (by decide)) (fun _ => ?_)⟩
      refine ⟨_, rfl, rfl, _, rfl, iteEq (fun z => absurd z (by decide)) (fun _ => ?_)⟩
      refine ⟨_, rfl, rfl, _, rfl, iteEq (fun z => absurd z (by decide)) (fun _ => ?_)⟩
      refine ⟨_, rfl, rfl, _, rfl, iteEq (fun _ => ?_) (fun z => absurd rfl z)⟩
      exact ⟨_, rfl, _, rfl, _, rfl, p, j, k, rfl, hA.tells hF hR (k1.trans k2) R2 hG same_bench⟩
    | beats j k =>
      obtain ⟨rfl, rfl⟩ := inj (show (8 : Int) :: j :: k :: rest = code :: tail from htail)
      refine ⟨_, rfl, r, dxr, _, rfl, hr1, noN, r, j, _, rfl, hR, fun H1 R1 k1 => ?_⟩
      obtain ⟨dx1, ra1, pos1, hr2⟩ := id R1.ins
      refine ⟨_, rfl, r, dx1, _, rfl, hr2, noN, r, k, _, rfl, R1, fun H2 R2 k2 => ?_⟩
      refine ⟨_, rfl, rfl, _, rfl, iteEq (fun z => absurd z (by decide)) (fun _ => ?_)⟩
      refine ⟨_, rfl, rfl, _, rfl, iteEq (fun z => absurd z (by decide)) (fun _ => ?_)⟩
      refine ⟨_, rfl, rfl, _, rfl, iteEq (fun z => absurd z (by decide)) (fun _ => ?_)⟩
      refine ⟨_, rfl, rfl, _, rfl, iteEq (fun z => absurd z (by decide)) (fun _ => ?_)⟩
      refine ⟨_, rfl, rfl, _, rfl, iteEq (fun _ => ?_) (fun z => absurd rfl z)⟩
      exact ⟨_, rfl, _, rfl, _, rfl, p, j, k, rfl, hA.tells hF hR (k1.trans k2) R2 hG same_beats⟩
    | dietz j k =>
      obtain ⟨rfl, rfl⟩ := inj (show (13 : Int) :: j :: k :: rest = code :: tail from htail)
      refine ⟨_, rfl, r, dxr, _, rfl, hr1, noN, r, j, _, rfl, hR, fun H1 R1 k1 => ?_⟩
      obtain ⟨dx1, ra1, pos1, hr2⟩ := id R1.ins
      refine ⟨_, rfl, r, dx1, _, rfl, hr2, noN, r, k, _, rfl, R1, fun H2 R2 k2 => ?_⟩
      refine ⟨_, rfl, rfl, _, rfl, iteEq (fun z => absurd z (by decide)) (fun _ => ?_)⟩
      refine ⟨_, rfl, rfl, _, rfl, iteEq (fun z => absurd z (by decide)) (fun _ => ?_)⟩
      refine ⟨_, rfl, rfl, _, rfl, iteEq (fun z => absurd z (by decide)) (fun _ => ?_)⟩
      refine ⟨_, rfl, rfl, _, rfl, iteEq (fun z => absurd z (by decide)) (fun _ => ?_)⟩
      refine ⟨_, rfl, rfl, _, rfl, iteEq (fun z => absurd z (by decide)) (fun _ => ?_)⟩
      exact ⟨_, rfl, _, rfl, _, rfl, p, j, k, rfl, hA.tells hF hR (k1.trans k2) R2 hG same_dietz⟩
    | begin l => obtain ⟨rfl, _⟩ := inj (show (0 : Int) :: _ = code :: tail from htail); omega
    | weights l => obtain ⟨rfl, _⟩ := inj (show (1 : Int) :: _ = code :: tail from htail); omega
    | period t e f b => obtain ⟨rfl, _⟩ := inj (show (2 : Int) :: _ = code :: tail from htail); omega
    | value k => obtain ⟨rfl, _⟩ := inj (show (3 : Int) :: _ = code :: tail from htail); omega
    | made k i => obtain ⟨rfl, _⟩ := inj (show (9 : Int) :: _ = code :: tail from htail); omega
    | irr => obtain ⟨rfl, _⟩ := inj (show (10 : Int) :: _ = code :: tail from htail); omega
    | sign m => obtain ⟨rfl, _⟩ := inj (show (11 : Int) :: _ = code :: tail from htail); omega
    | fall => obtain ⟨rfl, _⟩ := inj (show (12 : Int) :: _ = code :: tail from htail); omega
    | counts => obtain ⟨rfl, _⟩ := inj (show (14 : Int) :: _ = code :: tail from htail); omega
theorem Answers.late {H H1 : Hp} {p ea r : Addr} {s s' : State} {tail tail' rest ans : List Int} {Q : VK} (A : Answers K CE CF CR H p ea r s' rest ans Q) (hF : FundS CE CF H p ea s) (hR : RdAt K CR H r tail) (k1 : Kept H H1 r) (R1 : RdAt K CR H1 r tail') : Answers K CE CF CR H1 p ea r s' rest ans Q := by
  intro H2 ea' l F2 G2 R2 k2 a2 fl hl
  obtain ⟨F1, np, ne⟩ := hF.kept hR k1
  obtain ⟨dx1, b1, pos1, hr1⟩ := R1.ins
  refine A H2 ea' l F2 G2 R2 (fun c o e n1 n2 n3 => k2 _ _ (k1 _ _ e n3) n1 n2 n3) (fun t o ht Ap => ?_) (free_kept k1 hr1 fl) hl
  have A1 : Apart H1 p t := Ap.move hF (fun o h => k1 _ _ h np) (fun o h => k1 _ _ h ne) fun _ _ _ _ _ _ h => k1 _ _ h (rd_not_end hR h)
  by_cases tr : t = r
  · subst tr
    exact a2 t _ hr1 A1
  · exact a2 t o (k1 _ _ ht tr) A1
theorem Answers.keep {H H1 : Hp} {p ea r : Addr} {s s' : State} {rest ans : List Int} {Q : VK} (A : Answers K CE CF CR H p ea r s' rest ans Q) (hF : FundS CE CF H p ea s) (k1 : Same H H1) : Answers K CE CF CR H1 p ea r s' rest ans Q := by
  intro H2 ea' l F2 G2 R2 k2 a2 fl hl
  exact A H2 ea' l F2 G2 R2 (fun c o e n1 n2 n3 => k2 _ _ (k1 _ _ e) n1 n2 n3) (fun t o ht Ap => a2 t o (k1 _ _ ht) (Ap.same hF k1)) (k1.free fl) hl
/-! #### answer_made, answer_alone -/
abbrev sAMd : Stmt := top 103
theorem scAMd : FnScope ["fund", "reader", "k"] ["fund", "reader"] (defScope sAMd) := ⟨rfl, rfl, rfl, by decide +kernel, rfl, by decide +kernel, by decide +kernel⟩
def spAMd (K : PySem.W.Frag) (CE CF CR : Addr) : Sp := fun vs H Q _ => ∃ (p ea r : Addr) (s : State) (k i : Int) (rest : List Int), vs = [.ref p, .ref r] ∧ FundS CE CF H p ea s ∧ Good s ∧ RdAt K CR H r (k :: i :: rest) ∧ Answers K CE CF CR H p ea r (Vbfuan.step s (.made k i)).1 rest (Vbfuan.step s (.made k i)).2 Q
theorem ok_AMd {n : Nat} {f : Addr} {fd : FuncData} (F : Fun K "answer_made" "answer_made" sAMd f fd) (T : Txt K mg CE CF CR) (m_take_number : Mth P w K mg base CR "take_number" n ["self"] (spTN K CR)) (c_tell_made : Cal P w K mg base "tell_made" n ["fund", "k", "part"] (spTM CE CF)) :
    FnOk P w K mg base CX0 (n + 1) f fd ["fund", "reader"] (spAMd K CE CF CR) := by
  refine F.ok scAMd (fun vs H Q E h => ?_) (fun cdv A outer s H vs Q E hr h => ?_)
  · obtain ⟨p, ea, r, s, k, i, rest, rfl, _⟩ := h
    rfl
  · obtain ⟨p, ea, r, s, k, i, rest, rfl, hF, hG, hR, hA⟩ := h
    refine ⟨_, (pss_cons (ps_set (i := 2) scAMd.nd rfl (Or.inl rfl) (pe_mth0 m_take_number hr (pv 1)))
        (pss_one (ps_ret (pe_cal c_tell_made hr rfl (pa_cons (pv 0) (pa_cons (pv 2) (pa_cons (pe_mth0 m_take_number hr (pv 1)) pa_nil))))))), ?_⟩
    have noN : ∀ {a : Addr} {q : Int}, (readF a q).lookup ("take_number" : Str) = Option.none := readF_no (by decide +kernel) (by decide +kernel)
    obtain ⟨dxr, ra, pos, hr1⟩ := id hR.ins
    refine ⟨_, rfl, r, dxr, _, rfl, hr1, noN, r, k, _, rfl, hR, fun H1 R1 k1 => ?_⟩
    obtain ⟨dx1, ra1, pos1, hr2⟩ := id R1.ins
    refine ⟨_, rfl, _, rfl, _, rfl, r, dx1, _, rfl, hr2, noN, r, i, _, rfl, R1, fun H2 R2 k2 => ?_⟩
    exact ⟨p, k, i, rfl, hA.tells hF hR (k1.trans k2) R2 hG same_made⟩
abbrev sAAl : Stmt := top 104
theorem scAAl : FnScope ["fund", "call"] ["fund", "call"] (defScope sAAl) := ⟨rfl, rfl, rfl, by decide +kernel, rfl, by decide +kernel, by decide +kernel⟩
def spAAl (CE CF : Addr) : Sp := fun vs H Q _ => ∃ (p : Addr) (code : Int) (d : Vbfuan.Call), vs = [.ref p, .int code] ∧ ((code = 10 ∧ d = .irr) ∨ (code = 12 ∧ d = .fall) ∨ (code = 14 ∧ d = .counts)) ∧ Tells CE CF H p d Q
theorem ok_AAl {n : Nat} {f : Addr} {fd : FuncData} (F : Fun K "answer_alone" "answer_alone" sAAl f fd) (T : Txt K mg CE CF CR) (c_tell_irr : Cal P w K mg base "tell_irr" n ["fund"] (spTI CE CF)) (c_tell_fall : Cal P w K mg base "tell_fall" n ["fund"] (spTF CE CF)) (c_tell_counts : Cal P w K mg base "tell_counts" n ["fund"] (spTC CE CF)) :
    FnOk P w K mg base CX0 (n + 1) f fd ["fund", "call"] (spAAl CE CF) := by
  refine F.ok scAAl (fun vs H Q E h => ?_) (fun cdv A outer s H vs Q E hr h => ?_)
  · obtain ⟨p, code, d, rfl, _⟩ := h
    rfl
  · obtain ⟨p, code, d, rfl, hcd, hT⟩ := h
    refine ⟨_, (pss_cons (ps_if (pt_cmpR op_eq (pv 1) (pe_const T.c_IRR rfl) (nomark _)) (pss_one (ps_ret (pe_cal c_tell_irr hr rfl (pa_cons (pv 0) pa_nil)))) pss_nil)
        (pss_cons (ps_if (pt_cmpR op_eq (pv 1) (pe_const T.c_FALL rfl) (nomark _)) (pss_one (ps_ret (pe_cal c_tell_fall hr rfl (pa_cons (pv 0) pa_nil)))) pss_nil)
        (pss_one (ps_ret (pe_cal c_tell_counts hr rfl (pa_cons (pv 0) pa_nil)))))), ?_⟩
    rcases hcd with ⟨rfl, rfl⟩ | ⟨rfl, rfl⟩ | ⟨rfl, rfl⟩
    · refine ⟨_, rfl, rfl, _, rfl, iteEq (fun _ => ?_) (fun z => absurd rfl z)⟩
      exact ⟨_, rfl, p, rfl, hT⟩
    · refine ⟨_, rfl, rfl, _, rfl, iteEq (fun z => absurd z (by decide)) (fun _ => ?_)⟩
      refine ⟨_, rfl, rfl, _, rfl, iteEq (fun _ => ?_) (fun z => absurd rfl z)⟩
      exact ⟨_, rfl, p, rfl, hT⟩
    · refine ⟨_, rfl, rfl, _, rfl, iteEq (fun z => absurd z (by decide)) (fun _ => ?_)⟩
      refine ⟨_, rfl, rfl, _, rfl, iteEq (fun z => absurd z (by decide)) (fun _ => ?_)⟩
      exact ⟨_, rfl, p, rfl, hT⟩
/-! #### answer_call -/
theorem same_fall {s : State} : (Vbfuan.step s .fall).1 = s := rfl
theorem same_counts {s : State} : (Vbfuan.step s .counts).1 = s := rfl
abbrev sAL : Stmt := top 105
theorem scAL : FnScope ["fund", "reader", "call"] ["fund", "reader"] (defScope sAL) := ⟨rfl, rfl, rfl, by decide +kernel, rfl, by decide +kernel, by decide +kernel⟩
theorem ok_AL {n : Nat} {f : Addr} {fd : FuncData} (F : Fun K "answer_call" "answer_call" sAL f fd) (T : Txt K mg CE CF CR) (m_take_number : Mth P w K mg base CR "take_number" n ["self"] (spTN K CR)) (c_tell_value : Cal P w K mg base "tell_value" n ["fund", "k"] (spTV CE CF)) (c_tell_sign : Cal P w K mg base "tell_sign" n ["fund", "rate"] (spTSg CE CF)) (c_answer_change : Cal P w K mg base "answer_change" n ["fund", "reader", "call"] (spD K CE CF CR fun c => c = 0 ∨ c = 1 ∨ c = 2)) (c_answer_span : Cal P w K mg base "answer_span" n ["fund", "reader", "call"] (spD K CE CF CR fun c => c = 4 ∨ c = 5 ∨ c = 6 ∨ c = 7 ∨ c = 8 ∨ c = 13)) (c_answer_made : Cal P w K mg base "answer_made" n ["fund", "reader"] (spAMd K CE CF CR)) (c_answer_alone : Cal P w K mg base "answer_alone" n ["fund", "call"] (spAAl CE CF)) :
    FnOk P w K mg base CX0 (n + 1) f fd ["fund", "reader"] (spAL K CE CF CR) := by
  refine F.ok scAL (fun vs H Q E h => ?_) (fun cdv A outer s H vs Q E hr h => ?_)
  · obtain ⟨p, ea, r, s, c, rest, rfl, _⟩ := h
    rfl
  · obtain ⟨p, ea, r, s, c, rest, rfl, hF, hG, hR, hokc, hrows, hA⟩ := h
    refine ⟨_, (pss_cons (ps_set (i := 2) scAL.nd rfl (Or.inl rfl) (pe_mth0 m_take_number hr (pv 1)))
        (pss_cons (ps_if (pt_cmpR op_in_seq (pv 2) (pe_tup (pa_cons (pe_const T.c_BEGIN rfl) (pa_cons (pe_const T.c_WEIGHTS rfl) (pa_cons (pe_const T.c_PERIOD rfl) pa_nil)))) rfl) (pss_one (ps_ret (pe_cal c_answer_change hr rfl (pa_cons (pv 0) (pa_cons (pv 1) (pa_cons (pv 2) pa_nil)))))) pss_nil)
        (pss_cons (ps_if (pt_cmpR op_eq (pv 2) (pe_const T.c_VALUE rfl) (nomark _)) (pss_one (ps_ret (pe_cal c_tell_value hr rfl (pa_cons (pv 0) (pa_cons (pe_mth0 m_take_number hr (pv 1)) pa_nil))))) pss_nil)
        (pss_cons (ps_if (pt_cmpR op_in_seq (pv 2) (pe_tup (pa_cons (pe_const T.c_LINKED rfl) (pa_cons (pe_const T.c_SCALED rfl) (pa_cons (pe_const T.c_PART rfl) (pa_cons (pe_const T.c_BENCH rfl) (pa_cons (pe_const T.c_BEATS rfl) (pa_cons (pe_const T.c_DIETZ rfl) pa_nil))))))) rfl) (pss_one (ps_ret (pe_cal c_answer_span hr rfl (pa_cons (pv 0) (pa_cons (pv 1) (pa_cons (pv 2) pa_nil)))))) pss_nil)
        (pss_cons (ps_if (pt_cmpR op_eq (pv 2) (pe_const T.c_MADE rfl) (nomark _)) (pss_one (ps_ret (pe_cal c_answer_made hr rfl (pa_cons (pv 0) (pa_cons (pv 1) pa_nil))))) pss_nil)
        (pss_cons (ps_if (pt_cmpR op_eq (pv 2) (pe_const T.c_SIGN rfl) (nomark _)) (pss_one (ps_ret (pe_cal c_tell_sign hr rfl (pa_cons (pv 0) (pa_cons (pe_mth0 m_take_number hr (pv 1)) pa_nil))))) pss_nil)
        (pss_cons (ps_if (pt_cmpR op_in_seq (pv 2) (pe_tup (pa_cons (pe_const T.c_IRR rfl) (pa_cons (pe_const T.c_FALL rfl) (pa_cons (pe_const T.c_COUNTS rfl) pa_nil)))) rfl) (pss_one (ps_ret (pe_cal c_answer_alone hr rfl (pa_cons (pv 0) (pa_cons (pv 2) pa_nil))))) pss_nil)
        (pss_one ps_never)))))))), ?_⟩
    obtain ⟨dxr, ra, pos, hr1⟩ := id hR.ins
    have noN : ∀ {a : Addr} {q : Int}, (readF a q).lookup ("take_number" : Str) = Option.none := readF_no (by decide +kernel) (by decide +kernel)
    obtain ⟨d, hform⟩ := form_of hokc
    rw [hform.step] at hA
    have hform0 := hform
    cases hform with
    | begin l =>
      have hR0 : RdAt K CR H r (0 :: (PyFlat.putRow l ++ [] ++ rest)) := hR
      refine ⟨_, rfl, r, dxr, _, rfl, hr1, noN, r, (0 : Int), PyFlat.putRow l ++ [] ++ rest, rfl, hR0, fun H1 R1 k1 => ?_⟩
      obtain ⟨F1, _, _⟩ := hF.kept hR k1
      refine ⟨_, rfl, (by show 3 ≤ sizeLine; decide), fun t1 nt1 => ⟨t1, _, rfl, .inr (SqT.of upd_same), rfl, rfl, _, rfl, iteB (fun _ => ?_) (fun z => absurd z (by decide))⟩⟩
      have s2 := (same_new (o := .tup [V.int 0, V.int 1, V.int 2]) nt1)
      exact ⟨_, rfl, _, rfl, _, rfl, p, ea, r, s, _, _, 0, PyFlat.putRow l ++ [] ++ rest, rest, rfl, .inl rfl, F1.same s2, hG, hform0, rfl, hrows, R1.same s2, (hA.late hF hR k1 R1).keep F1 s2⟩
    | weights l =>
      have hR0 : RdAt K CR H r (1 :: (PyFlat.putRow l ++ [] ++ rest)) := hR
      refine ⟨_, rfl, r, dxr, _, rfl, hr1, noN, r, (1 : Int), PyFlat.putRow l ++ [] ++ rest, rfl, hR0, fun H1 R1 k1 => ?_⟩
      obtain ⟨F1, _, _⟩ := hF.kept hR k1
      refine ⟨_, rfl, (by show 3 ≤ sizeLine; decide), fun t1 nt1 => ⟨t1, _, rfl, .inr (SqT.of upd_same), rfl, rfl, _, rfl, iteB (fun _ => ?_) (fun z => absurd z (by decide))⟩⟩
      have s2 := (same_new (o := .tup [V.int 0, V.int 1, V.int 2]) nt1)
      exact ⟨_, rfl, _, rfl, _, rfl, p, ea, r, s, _, _, 1, PyFlat.putRow l ++ [] ++ rest, rest, rfl, .inr (.inl rfl), F1.same s2, hG, hform0, rfl, hrows, R1.same s2, (hA.late hF hR k1 R1).keep F1 s2⟩
    | period t0 e f b =>
      have hR0 : RdAt K CR H r (2 :: (t0 :: (PyFlat.putRow e ++ (PyFlat.putRow f ++ (PyFlat.putRow b ++ []))) ++ rest)) := hR
      refine ⟨_, rfl, r, dxr, _, rfl, hr1, noN, r, (2 : Int), t0 :: (PyFlat.putRow e ++ (PyFlat.putRow f ++ (PyFlat.putRow b ++ []))) ++ rest, rfl, hR0, fun H1 R1 k1 => ?_⟩
      obtain ⟨F1, _, _⟩ := hF.kept hR k1
      refine ⟨_, rfl, (by show 3 ≤ sizeLine; decide), fun t1 nt1 => ⟨t1, _, rfl, .inr (SqT.of upd_same), rfl, rfl, _, rfl, iteB (fun _ => ?_) (fun z => absurd z (by decide))⟩⟩
      have s2 := (same_new (o := .tup [V.int 0, V.int 1, V.int 2]) nt1)
      exact ⟨_, rfl, _, rfl, _, rfl, p, ea, r, s, _, _, 2, t0 :: (PyFlat.putRow e ++ (PyFlat.putRow f ++ (PyFlat.putRow b ++ []))) ++ rest, rest, rfl, .inr (.inr rfl), F1.same s2, hG, hform0, rfl, hrows, R1.same s2, (hA.late hF hR k1 R1).keep F1 s2⟩
    | value k =>
      have hR0 : RdAt K CR H r (3 :: (k :: rest)) := hR
      refine ⟨_, rfl, r, dxr, _, rfl, hr1, noN, r, (3 : Int), k :: rest, rfl, hR0, fun H1 R1 k1 => ?_⟩
      obtain ⟨F1, _, _⟩ := hF.kept hR k1
      refine ⟨_, rfl, (by show 3 ≤ sizeLine; decide), fun t1 nt1 => ⟨t1, _, rfl, .inr (SqT.of upd_same), rfl, rfl, _, rfl, iteB (fun z => absurd z (by decide)) (fun _ => ?_)⟩⟩
      refine ⟨_, rfl, rfl, _, rfl, iteEq (fun _ => ?_) (fun z => absurd rfl z)⟩
      have s2 := (same_new (o := .tup [V.int 0, V.int 1, V.int 2]) nt1)
      have R2 := R1.same s2
      obtain ⟨dx2, ra2, pos2, hr2⟩ := id R2.ins
      refine ⟨_, rfl, _, rfl, r, dx2, _, rfl, hr2, noN, r, k, rest, rfl, R2, fun H3 R3 k3 => ?_⟩
      exact ⟨p, k, rfl, ((hA.late hF hR k1 R1).keep F1 s2).tells (F1.same s2) R2 k3 R3 hG same_value⟩
    | linked j k =>
      have hR0 : RdAt K CR H r (4 :: (j :: k :: rest)) := hR
      refine ⟨_, rfl, r, dxr, _, rfl, hr1, noN, r, (4 : Int), j :: k :: rest, rfl, hR0, fun H1 R1 k1 => ?_⟩
      obtain ⟨F1, _, _⟩ := hF.kept hR k1
      refine ⟨_, rfl, (by show 3 ≤ sizeLine; decide), fun t1 nt1 => ⟨t1, _, rfl, .inr (SqT.of upd_same), rfl, rfl, _, rfl, iteB (fun z => absurd z (by decide)) (fun _ => ?_)⟩⟩
      refine ⟨_, rfl, rfl, _, rfl, iteEq (fun z => absurd z (by decide)) (fun _ => ?_)⟩
      refine ⟨_, rfl, (by show 6 ≤ sizeLine; decide), fun t2 nt2 => ⟨t2, _, rfl, .inr (SqT.of upd_same), rfl, rfl, _, rfl, iteB (fun _ => ?_) (fun z => absurd z (by decide))⟩⟩
      have s2 := (same_new (o := .tup [V.int 0, V.int 1, V.int 2]) nt1).trans (same_new (o := .tup [V.int 4, V.int 5, V.int 6, V.int 7, V.int 8, V.int 13]) nt2)
      exact ⟨_, rfl, _, rfl, _, rfl, p, ea, r, s, _, _, 4, j :: k :: rest, rest, rfl, .inl rfl, F1.same s2, hG, hform0, rfl, hrows, R1.same s2, (hA.late hF hR k1 R1).keep F1 s2⟩
    | scaled j k =>
      have hR0 : RdAt K CR H r (5 :: (j :: k :: rest)) := hR
      refine ⟨_, rfl, r, dxr, _, rfl, hr1, noN, r, (5 : Int), j :: k :: rest, rfl, hR0, fun H1 R1 k1 => ?_⟩
      obtain ⟨F1, _, _⟩ := hF.kept hR k1
      refine ⟨_, rfl, (by show 3 ≤ sizeLine; decide), fun t1 nt1 => ⟨t1, _, rfl, .inr (SqT.of upd_same), rfl, rfl, _, rfl, iteB (fun z => absurd z (by decide)) (fun _ => ?_)⟩⟩
      refine ⟨_, rfl, rfl, _, rfl, iteEq (fun z => absurd z (by decide)) (fun _ => ?_)⟩
      refine ⟨_, rfl, (by show 6 ≤ sizeLine; decide), fun t2 nt2 => ⟨t2, _, rfl, .inr (SqT.of upd_same), rfl, rfl, _, rfl, iteB (fun _ => ?_) (fun z => absurd z (by decide))⟩⟩
      have s2 := (same_new (o := .tup [V.int 0, V.int 1, V.int 2]) nt1).trans (same_new (o := .tup [V.int 4, V.int 5, V.int 6, V.int 7, V.int 8, V.int 13]) nt2)
      exact ⟨_, rfl, _, rfl, _, rfl, p, ea, r, s, _, _, 5, j :: k :: rest, rest, rfl, .inr (.inl rfl), F1.same s2, hG, hform0, rfl, hrows, R1.same s2, (hA.late hF hR k1 R1).keep F1 s2⟩
    | part j k i =>
      have hR0 : RdAt K CR H r (6 :: (j :: k :: i :: rest)) := hR
      refine ⟨_, rfl, r, dxr, _, rfl, hr1, noN, r, (6 : Int), j :: k :: i :: rest, rfl, hR0, fun H1 R1 k1 => ?_⟩
      obtain ⟨F1, _, _⟩ := hF.kept hR k1
      refine ⟨_, rfl, (by show 3 ≤ sizeLine; decide), fun t1 nt1 => ⟨t1, _, rfl, .inr (SqT.of upd_same), rfl, rfl, _, rfl, iteB (fun z => absurd z (by decide)) (fun _ => ?_)⟩⟩
      refine ⟨_, rfl, rfl, _, rfl, iteEq (fun z => absurd z (by decide)) (fun _ => ?_)⟩
      refine ⟨_, rfl, (by show 6 ≤ sizeLine; decide), fun t2 nt2 => ⟨t2, _, rfl, .inr (SqT.of upd_same), rfl, rfl, _, rfl, iteB (fun _ => ?_) (fun z => absurd z (by decide))⟩⟩
      have s2 := (same_new (o := .tup [V.int 0, V.int 1, V.int 2]) nt1).trans (same_new (o := .tup [V.int 4, V.int 5, V.int 6, V.int 7, V.int 8, V.int 13]) nt2)
      exact ⟨_, rfl, _, rfl, _, rfl, p, ea, r, s, _, _, 6, j :: k :: i :: rest, rest, rfl, .inr (.inr (.inl rfl)), F1.same s2, hG, hform0, rfl, hrows, R1.same s2, (hA.late hF hR k1 R1).keep F1 s2⟩
    | bench j k =>
      have hR0 : RdAt K CR H r (7 :: (j :: k :: rest)) := hR
      refine ⟨_, rfl, r, dxr, _, rfl, hr1, noN, r, (7 : Int), j :: k :: rest, rfl, hR0, fun H1 R1 k1 => ?_⟩
      obtain ⟨F1, _, _⟩ := hF.kept hR k1
      refine ⟨_, rfl, (by show 3 ≤ sizeLine; decide), fun t1 nt1 => ⟨t1, _, rfl, .inr (SqT.of upd_same), rfl, rfl, _, rfl, iteB (fun z => absurd z (by decide)) (fun _ => ?_)⟩⟩
      refine ⟨_, rfl, rfl, _, rfl, iteEq (fun z => absurd z (by decide)) (fun _ => ?_)⟩
      refine ⟨_, rfl, (by show 6 ≤ sizeLine; decide), fun t2 nt2 => ⟨t2, _, rfl, .inr (SqT.of upd_same), rfl, rfl, _, rfl, iteB (fun _ => ?_) (fun z => absurd z (by decide))⟩⟩
      have s2 := (same_new (o := .tup [V.int 0, V.int 1, V.int 2]) nt1).trans (same_new (o := .tup [V.int 4, V.int 5, V.int 6, V.int 7, V.int 8, V.int 13]) nt2)
      exact ⟨_, rfl, _, rfl, _, rfl, p, ea, r, s, _, _, 7, j :: k :: rest, rest, rfl, .inr (.inr (.inr (.inl rfl))), F1.same s2, hG, hform0, rfl, hrows, R1.same s2, (hA.late hF hR k1 R1).keep F1 s2⟩
    | beats j k =>
      have hR0 : RdAt K CR H r (8 :: (j :: k :: rest)) := hR
      refine ⟨_, rfl, r, dxr, _, rfl, hr1, noN, r, (8 : Int), j :: k :: rest, rfl, hR0, fun H1 R1 k1 => ?_⟩
      obtain ⟨F1, _, _⟩ := hF.kept hR k1
      refine ⟨_, rfl, (by show 3 ≤ sizeLine; decide), fun t1 nt1 => ⟨t1, _, rfl, .inr (SqT.of upd_same), rfl, rfl, _, rfl, iteB (fun z => absurd z (by decide)) (fun _ => ?_)⟩⟩
      refine ⟨_, rfl, rfl, _, rfl, iteEq (fun z => absurd z (by decide)) (fun _ => ?_)⟩
      refine ⟨_, rfl, (by show 6 ≤ sizeLine; decide), fun t2 nt2 => ⟨t2, _, rfl, .inr (SqT.of upd_same), rfl, rfl, _, rfl, iteB (fun _ => ?_) (fun z => absurd z (by decide))⟩⟩
      have s2 := (same_new (o := .tup [V.int 0, V.int 1, V.int 2]) nt1).trans (same_new (o := .tup [V.int 4, V.int 5, V.int 6, V.int 7, V.int 8, V.int 13]) nt2)
      exact ⟨_, rfl, _, rfl, _, rfl, p, ea, r, s, _, _, 8, j :: k :: rest, rest, rfl, .inr (.inr (.inr (.inr (.inl rfl)))), F1.same s2, hG, hform0, rfl, hrows, R1.same s2, (hA.late hF hR k1 R1).keep F1 s2⟩
    | made k i =>
      have hR0 : RdAt K CR H r (9 :: (k :: i :: rest)) := hR
      refine ⟨_, rfl, r, dxr, _, rfl, hr1, noN, r, (9 : Int), k :: i :: rest, rfl, hR0, fun H1 R1 k1 => ?_⟩
      obtain ⟨F1, _, _⟩ := hF.kept hR k1
      refine ⟨_, rfl, (by show 3 ≤ sizeLine; decide), fun t1 nt1 => ⟨t1, _, rfl, .inr (SqT.of upd_same), rfl, rfl, _, rfl, iteB (fun z => absurd z (by decide)) (fun _ => ?_)⟩⟩
      refine ⟨_, rfl, rfl, _, rfl, iteEq (fun z => absurd z (by decide)) (fun _ => ?_)⟩
      refine ⟨_, rfl, (by show 6 ≤ sizeLine; decide), fun t2 nt2 => ⟨t2, _, rfl, .inr (SqT.of upd_same), rfl, rfl, _, rfl, iteB (fun z => absurd z (by decide)) (fun _ => ?_)⟩⟩
      refine ⟨_, rfl, rfl, _, rfl, iteEq (fun _ => ?_) (fun z => absurd rfl z)⟩
      have s2 := (same_new (o := .tup [V.int 0, V.int 1, V.int 2]) nt1).trans (same_new (o := .tup [V.int 4, V.int 5, V.int 6, V.int 7, V.int 8, V.int 13]) nt2)
      exact ⟨_, rfl, _, rfl, p, ea, r, s, k, i, rest, rfl, F1.same s2, hG, R1.same s2, (hA.late hF hR k1 R1).keep F1 s2⟩
    | irr =>
      have hR0 : RdAt K CR H r (10 :: (rest)) := hR
      refine ⟨_, rfl, r, dxr, _, rfl, hr1, noN, r, (10 : Int), rest, rfl, hR0, fun H1 R1 k1 => ?_⟩
      obtain ⟨F1, _, _⟩ := hF.kept hR k1
      refine ⟨_, rfl, (by show 3 ≤ sizeLine; decide), fun t1 nt1 => ⟨t1, _, rfl, .inr (SqT.of upd_same), rfl, rfl, _, rfl, iteB (fun z => absurd z (by decide)) (fun _ => ?_)⟩⟩
      refine ⟨_, rfl, rfl, _, rfl, iteEq (fun z => absurd z (by decide)) (fun _ => ?_)⟩
      refine ⟨_, rfl, (by show 6 ≤ sizeLine; decide), fun t2 nt2 => ⟨t2, _, rfl, .inr (SqT.of upd_same), rfl, rfl, _, rfl, iteB (fun z => absurd z (by decide)) (fun _ => ?_)⟩⟩
      refine ⟨_, rfl, rfl, _, rfl, iteEq (fun z => absurd z (by decide)) (fun _ => ?_)⟩
      refine ⟨_, rfl, rfl, _, rfl, iteEq (fun z => absurd z (by decide)) (fun _ => ?_)⟩
      refine ⟨_, rfl, (by show 3 ≤ sizeLine; decide), fun t3 nt3 => ⟨t3, _, rfl, .inr (SqT.of upd_same), rfl, rfl, _, rfl, iteB (fun _ => ?_) (fun z => absurd z (by decide))⟩⟩
      have s2 := ((same_new (o := .tup [V.int 0, V.int 1, V.int 2]) nt1).trans (same_new (o := .tup [V.int 4, V.int 5, V.int 6, V.int 7, V.int 8, V.int 13]) nt2)).trans (same_new (o := .tup [V.int 10, V.int 12, V.int 14]) nt3)
      exact ⟨_, rfl, _, rfl, p, 10, _, rfl, .inl ⟨rfl, rfl⟩, ((hA.late hF hR k1 R1).keep F1 s2).tells (F1.same s2) (R1.same s2) (fun _ _ e _ => e) (R1.same s2) hG same_irr⟩
    | sign m =>
      have hR0 : RdAt K CR H r (11 :: (m :: rest)) := hR
      refine ⟨_, rfl, r, dxr, _, rfl, hr1, noN, r, (11 : Int), m :: rest, rfl, hR0, fun H1 R1 k1 => ?_⟩
      obtain ⟨F1, _, _⟩ := hF.kept hR k1
      refine ⟨_, rfl, (by show 3 ≤ sizeLine; decide), fun t1 nt1 => ⟨t1, _, rfl, .inr (SqT.of upd_same), rfl, rfl, _, rfl, iteB (fun z => absurd z (by decide)) (fun _ => ?_)⟩⟩
      refine ⟨_, rfl, rfl, _, rfl, iteEq (fun z => absurd z (by decide)) (fun _ => ?_)⟩
      refine ⟨_, rfl, (by show 6 ≤ sizeLine; decide), fun t2 nt2 => ⟨t2, _, rfl, .inr (SqT.of upd_same), rfl, rfl, _, rfl, iteB (fun z => absurd z (by decide)) (fun _ => ?_)⟩⟩
      refine ⟨_, rfl, rfl, _, rfl, iteEq (fun z => absurd z (by decide)) (fun _ => ?_)⟩
      refine ⟨_, rfl, rfl, _, rfl, iteEq (fun _ => ?_) (fun z => absurd rfl z)⟩
      have s2 := (same_new (o := .tup [V.int 0, V.int 1, V.int 2]) nt1).trans (same_new (o := .tup [V.int 4, V.int 5, V.int 6, V.int 7, V.int 8, V.int 13]) nt2)
      have R2 := R1.same s2
      obtain ⟨dx2, ra2, pos2, hr2⟩ := id R2.ins
      refine ⟨_, rfl, _, rfl, r, dx2, _, rfl, hr2, noN, r, m, rest, rfl, R2, fun H3 R3 k3 => ?_⟩
      exact ⟨p, m, rfl, ((hA.late hF hR k1 R1).keep F1 s2).tells (F1.same s2) R2 k3 R3 hG same_sign⟩
    | fall =>
      have hR0 : RdAt K CR H r (12 :: (rest)) := hR
      refine ⟨_, rfl, r, dxr, _, rfl, hr1, noN, r, (12 : Int), rest, rfl, hR0, fun H1 R1 k1 => ?_⟩
      obtain ⟨F1, _, _⟩ := hF.kept hR k1
      refine ⟨_, rfl, (by show 3 ≤ sizeLine; decide), fun t1 nt1 => ⟨t1, _, rfl, .inr (SqT.of upd_same), rfl, rfl, _, rfl, iteB (fun z => absurd z (by decide)) (fun _ => ?_)⟩⟩
      refine ⟨_, rfl, rfl, _, rfl, iteEq (fun z => absurd z (by decide)) (fun _ => ?_)⟩
      refine ⟨_, rfl, (by show 6 ≤ sizeLine; decide), fun t2 nt2 => ⟨t2, _, rfl, .inr (SqT.of upd_same), rfl, rfl, _, rfl, iteB (fun z => absurd z (by decide)) (fun _ => ?_)⟩⟩
      refine ⟨_, rfl, rfl, _, rfl, iteEq (fun z => absurd z (by decide)) (fun _ => ?_)⟩
      refine ⟨_, rfl, rfl, _, rfl, iteEq (fun z => absurd z (by decide)) (fun _ => ?_)⟩
      refine ⟨_, rfl, (by show 3 ≤ sizeLine; decide), fun t3 nt3 => ⟨t3, _, rfl, .inr (SqT.of upd_same), rfl, rfl, _, rfl, iteB (fun _ => ?_) (fun z => absurd z (by decide))⟩⟩
      have s2 := ((same_new (o := .tup [V.int 0, V.int 1, V.int 2]) nt1).trans (same_new (o := .tup [V.int 4, V.int 5, V.int 6, V.int 7, V.int 8, V.int 13]) nt2)).trans (same_new (o := .tup [V.int 10, V.int 12, V.int 14]) nt3)
      exact ⟨_, rfl, _, rfl, p, 12, _, rfl, .inr (.inl ⟨rfl, rfl⟩), ((hA.late hF hR k1 R1).keep F1 s2).tells (F1.same s2) (R1.same s2) (fun _ _ e _ => e) (R1.same s2) hG same_fall⟩
    | dietz j k =>
      have hR0 : RdAt K CR H r (13 :: (j :: k :: rest)) := hR
      refine ⟨_, rfl, r, dxr, _, rfl, hr1, noN, r, (13 : Int), j :: k :: rest, rfl, hR0, fun H1 R1 k1 => ?_⟩
      obtain ⟨F1, _, _⟩ := hF.kept hR k1
      refine ⟨_, rfl, (by show 3 ≤ sizeLine; decide), fun t1 nt1 => ⟨t1, _, rfl, .inr (SqT.of upd_same), rfl, rfl, _, rfl, iteB (fun z => absurd z (by decide)) (fun _ => ?_)⟩⟩
      refine ⟨_, rfl, rfl, _, rfl, iteEq (fun z => absurd z (by decide)) (fun _ => ?_)⟩
      refine ⟨_, rfl, (by show 6 ≤ sizeLine; decide), fun t2 nt2 => ⟨t2, _, rfl, .inr (SqT.of upd_same), rfl, rfl, _, rfl, iteB (fun _ => ?_) (fun z => absurd z (by decide))⟩⟩
      have s2 := (same_new (o := .tup [V.int 0, V.int 1, V.int 2]) nt1).trans (same_new (o := .tup [V.int 4, V.int 5, V.int 6, V.int 7, V.int 8, V.int 13]) nt2)
      exact ⟨_, rfl, _, rfl, _, rfl, p, ea, r, s, _, _, 13, j :: k :: rest, rest, rfl, .inr (.inr (.inr (.inr (.inr rfl)))), F1.same s2, hG, hform0, rfl, hrows, R1.same s2, (hA.late hF hR k1 R1).keep F1 s2⟩
    | counts =>
      have hR0 : RdAt K CR H r (14 :: (rest)) := hR
      refine ⟨_, rfl, r, dxr, _, rfl, hr1, noN, r, (14 : Int), rest, rfl, hR0, fun H1 R1 k1 => ?_⟩
      obtain ⟨F1, _, _⟩ := hF.kept hR k1
      refine ⟨_, rfl, (by show 3 ≤ sizeLine; decide), fun t1 nt1 => ⟨t1, _, rfl, .inr (SqT.of upd_same), rfl, rfl, _, rfl, iteB (fun z => absurd z (by decide)) (fun _ => ?_)⟩⟩
      refine ⟨_, rfl, rfl, _, rfl, iteEq (fun z => absurd z (by decide)) (fun _ => ?_)⟩
      refine ⟨_, rfl, (by show 6 ≤ sizeLine; decide), fun t2 nt2 => ⟨t2, _, rfl, .inr (SqT.of upd_same), rfl, rfl, _, rfl, iteB (fun z => absurd z (by decide)) (fun _ => ?_)⟩⟩
      refine ⟨_, rfl, rfl, _, rfl, iteEq (fun z => absurd z (by decide)) (fun _ => ?_)⟩
      refine ⟨_, rfl, rfl, _, rfl, iteEq (fun z => absurd z (by decide)) (fun _ => ?_)⟩
      refine ⟨_, rfl, (by show 3 ≤ sizeLine; decide), fun t3 nt3 => ⟨t3, _, rfl, .inr (SqT.of upd_same), rfl, rfl, _, rfl, iteB (fun _ => ?_) (fun z => absurd z (by decide))⟩⟩
      have s2 := ((same_new (o := .tup [V.int 0, V.int 1, V.int 2]) nt1).trans (same_new (o := .tup [V.int 4, V.int 5, V.int 6, V.int 7, V.int 8, V.int 13]) nt2)).trans (same_new (o := .tup [V.int 10, V.int 12, V.int 14]) nt3)
      exact ⟨_, rfl, _, rfl, p, 14, _, rfl, .inr (.inr ⟨rfl, rfl⟩), ((hA.late hF hR k1 R1).keep F1 s2).tells (F1.same s2) (R1.same s2) (fun _ _ e _ => e) (R1.same s2) hG same_counts⟩
end
end FB
end
section
set_option maxRecDepth 100000
set_option maxHeartbeats 4000000
namespace FB
open PySem PySem.Spec PyProof.Rows L2
/-! ### the request -/
theorem request {K : PySem.W.Frag} {H : Hp} {aa : Addr} {l : List Int} {Q : VK} {E : XK} (hO : OnlyF H) (hlen : l.length ≤ 16000) (hask : PyVbfuan.answers_asked l = true) (hs : SqL K H aa (l.map V.int)) (k : ∀ H' p, LI H' p (PyVbfuan.answers l) → Q (.ref p) H') : spAN K [.ref aa] H Q E := by
  have hin : InL K H aa l := by
    rcases hs with (h | ⟨o, h⟩) | h
    · rcases hO aa with z | ⟨o, u, z⟩
      · rw [h] at z; cases z
      · rw [h] at z; cases z
    · exact .inl ⟨o, h⟩
    · exact .inr h
  unfold PyVbfuan.answers_asked PyVbfuan.calls at hask
  unfold PyVbfuan.answers PyVbfuan.calls at k
  cases e : PyFlat.calls PyVbfuan.shape l.length l with
  | none => rw [e] at hask; cases hask
  | some cs =>
    rw [e] at hask k
    obtain ⟨rfl, hok⟩ := PyFlat.put_calls _ _ _ e
    have ew : cs.map PyVbfuan.whole = cs := by
      clear k hask e hlen hs hin
      induction cs with
      | nil => rfl
      | cons c cs ih =>
        obtain ⟨d, hd⟩ := form_of (hok c (List.Mem.head _))
        rw [List.map_cons, hd.whole, ih fun x hx => hok x (List.Mem.tail _ hx)]
    have hask' : (PyFlat.atMost 400 (cs.map PyVbfuan.whole) && VbfuanNeutral.asked (cs.map PyVbfuan.whole)) = true := hask
    rw [ew, Bool.and_eq_true] at hask'
    have h400 : cs.length ≤ 400 := of_decide_eq_true hask'.1
    refine ⟨aa, cs, rfl, hin, hok, by omega, by omega, fun H' p hp => k H' p ?_⟩
    show LI H' p (PyFlat.told (PyFlat.played VbfuanNeutral.step VbfuanNeutral.start (cs.map PyVbfuan.whole)))
    rw [ew]
    exact hp
end FB
end
set_option maxRecDepth 100000
set_option maxHeartbeats 4000000
namespace FB
open PySem PySem.Spec PyProof.Rows L2
theorem all_mk {P : Program} {w : World} {K : PySem.W.Frag} {h : Heap} {mg : Str → Option Value} {fa CE CF CR f_VB f_EI f_SA f_FI f_PC f_AllW f_SR f_WR f_PR f_GN f_PF f_ER f_SP f_PtR f_PS f_BE f_CW f_AP f_Gcd f_Least f_LF f_BR f_WF f_LB f_TV f_TL f_TS f_TP f_TB f_AF f_Pow f_LO f_MW f_Tm f_AU f_AVL f_NP f_RR f_MWR f_MR f_AR f_WG f_BG f_CG f_MD f_GF f_Cmp f_TBt f_TM f_TI f_TSg f_TF f_TD f_TC f_RI f_HM f_TN f_TNS f_TR f_AC f_AS f_AMd f_AAl f_AL f_AN : Addr} (X : K.In h) (G : h.Ns mainGlobals mg) (hfa : mg "answers" = some (.ref fa))
    {od_VB an_VB od_EI an_EI od_SA an_SA od_FI an_FI od_PC an_PC od_AllW an_AllW od_SR an_SR od_WR an_WR od_PR an_PR od_GN an_GN od_PF an_PF od_ER an_ER od_SP an_SP od_PtR an_PtR od_PS an_PS od_BE an_BE od_CW an_CW od_AP an_AP od_Gcd an_Gcd od_Least an_Least od_LF an_LF od_BR an_BR od_WF an_WF od_LB an_LB od_TV an_TV od_TL an_TL od_TS an_TS od_TP an_TP od_TB an_TB od_AF an_AF od_Pow an_Pow od_LO an_LO od_MW an_MW od_Tm an_Tm od_AU an_AU od_AVL an_AVL od_NP an_NP od_RR an_RR od_MWR an_MWR od_MR an_MR od_AR an_AR od_WG an_WG od_BG an_BG od_CG an_CG od_MD an_MD od_GF an_GF od_Cmp an_Cmp od_TBt an_TBt od_TM an_TM od_TI an_TI od_TSg an_TSg od_TF an_TF od_TD an_TD od_TC an_TC od_RI an_RI od_HM an_HM od_TN an_TN od_TNS an_TNS od_TR an_TR od_AC an_AC od_AS an_AS od_AMd an_AMd od_AAl an_AAl od_AL an_AL od_AN an_AN : Option Addr} {sl_VB sl_EI sl_SA sl_FI sl_PC sl_AllW sl_SR sl_WR sl_PR sl_GN sl_PF sl_ER sl_SP sl_PtR sl_PS sl_BE sl_CW sl_AP sl_Gcd sl_Least sl_LF sl_BR sl_WF sl_LB sl_TV sl_TL sl_TS sl_TP sl_TB sl_AF sl_Pow sl_LO sl_MW sl_Tm sl_AU sl_AVL sl_NP sl_RR sl_MWR sl_MR sl_AR sl_WG sl_BG sl_CG sl_MD sl_GF sl_Cmp sl_TBt sl_TM sl_TI sl_TSg sl_TF sl_TD sl_TC sl_RI sl_HM sl_TN sl_TNS sl_TR sl_AC sl_AS sl_AMd sl_AAl sl_AL sl_AN : Array (Option Value)} {oc_VB kV_VB dc_VB pm_VB cd_VB ct_VB oc_EI kV_EI dc_EI pm_EI cd_EI ct_EI oc_SA kV_SA dc_SA pm_SA cd_SA ct_SA oc_FI kV_FI dc_FI pm_FI cd_FI ct_FI oc_PC kV_PC dc_PC pm_PC cd_PC ct_PC oc_AllW kV_AllW dc_AllW pm_AllW cd_AllW ct_AllW oc_SR kV_SR dc_SR pm_SR cd_SR ct_SR oc_WR kV_WR dc_WR pm_WR cd_WR ct_WR oc_PR kV_PR dc_PR pm_PR cd_PR ct_PR oc_GN kV_GN dc_GN pm_GN cd_GN ct_GN oc_PF kV_PF dc_PF pm_PF cd_PF ct_PF oc_ER kV_ER dc_ER pm_ER cd_ER ct_ER oc_SP kV_SP dc_SP pm_SP cd_SP ct_SP oc_PtR kV_PtR dc_PtR pm_PtR cd_PtR ct_PtR oc_PS kV_PS dc_PS pm_PS cd_PS ct_PS oc_BE kV_BE dc_BE pm_BE cd_BE ct_BE oc_CW kV_CW dc_CW pm_CW cd_CW ct_CW oc_AP kV_AP dc_AP pm_AP cd_AP ct_AP oc_Gcd kV_Gcd dc_Gcd pm_Gcd cd_Gcd ct_Gcd oc_Least kV_Least dc_Least pm_Least cd_Least ct_Least oc_LF kV_LF dc_LF pm_LF cd_LF ct_LF oc_BR kV_BR dc_BR pm_BR cd_BR ct_BR oc_WF kV_WF dc_WF pm_WF cd_WF ct_WF oc_LB kV_LB dc_LB pm_LB cd_LB ct_LB oc_TV kV_TV dc_TV pm_TV cd_TV ct_TV oc_TL kV_TL dc_TL pm_TL cd_TL ct_TL oc_TS kV_TS dc_TS pm_TS cd_TS ct_TS oc_TP kV_TP dc_TP pm_TP cd_TP ct_TP oc_TB kV_TB dc_TB pm_TB cd_TB ct_TB oc_AF kV_AF dc_AF pm_AF cd_AF ct_AF oc_Pow kV_Pow dc_Pow pm_Pow cd_Pow ct_Pow oc_LO kV_LO dc_LO pm_LO cd_LO ct_LO oc_MW kV_MW dc_MW pm_MW cd_MW ct_MW oc_Tm kV_Tm dc_Tm pm_Tm cd_Tm ct_Tm oc_AU kV_AU dc_AU pm_AU cd_AU ct_AU oc_AVL kV_AVL dc_AVL pm_AVL cd_AVL ct_AVL oc_NP kV_NP dc_NP pm_NP cd_NP ct_NP oc_RR kV_RR dc_RR pm_RR cd_RR ct_RR oc_MWR kV_MWR dc_MWR pm_MWR cd_MWR ct_MWR oc_MR kV_MR dc_MR pm_MR cd_MR ct_MR oc_AR kV_AR dc_AR pm_AR cd_AR ct_AR oc_WG kV_WG dc_WG pm_WG cd_WG ct_WG oc_BG kV_BG dc_BG pm_BG cd_BG ct_BG oc_CG kV_CG dc_CG pm_CG cd_CG ct_CG oc_MD kV_MD dc_MD pm_MD cd_MD ct_MD oc_GF kV_GF dc_GF pm_GF cd_GF ct_GF oc_Cmp kV_Cmp dc_Cmp pm_Cmp cd_Cmp ct_Cmp oc_TBt kV_TBt dc_TBt pm_TBt cd_TBt ct_TBt oc_TM kV_TM dc_TM pm_TM cd_TM ct_TM oc_TI kV_TI dc_TI pm_TI cd_TI ct_TI oc_TSg kV_TSg dc_TSg pm_TSg cd_TSg ct_TSg oc_TF kV_TF dc_TF pm_TF cd_TF ct_TF oc_TD kV_TD dc_TD pm_TD cd_TD ct_TD oc_TC kV_TC dc_TC pm_TC cd_TC ct_TC oc_RI kV_RI dc_RI pm_RI cd_RI ct_RI oc_HM kV_HM dc_HM pm_HM cd_HM ct_HM oc_TN kV_TN dc_TN pm_TN cd_TN ct_TN oc_TNS kV_TNS dc_TNS pm_TNS cd_TNS ct_TNS oc_TR kV_TR dc_TR pm_TR cd_TR ct_TR oc_AC kV_AC dc_AC pm_AC cd_AC ct_AC oc_AS kV_AS dc_AS pm_AS cd_AS ct_AS oc_AMd kV_AMd dc_AMd pm_AMd cd_AMd ct_AMd oc_AAl kV_AAl dc_AAl pm_AAl cd_AAl ct_AAl oc_AL kV_AL dc_AL pm_AL cd_AL ct_AL oc_AN kV_AN dc_AN pm_AN cd_AN ct_AN : Value} {tk_MILLION tk_NOTHING_REFUSED tk_OUT_OF_RANGE tk_WRONG_ROW tk_NO_SUCH_END tk_NOT_AS_TOLD tk_NOTHING_LEFT tk_TOO_MANY tk_MOST_PARTS tk_MOST_ENDS tk_MOST_AT_START tk_MOST_VALUE tk_MOST_FACTOR tk_LATEST_TIME tk_GREATEST_END_NAMED tk_SCALE tk_BEGIN tk_WEIGHTS tk_PERIOD tk_VALUE tk_LINKED tk_SCALED tk_PART tk_BENCH tk_BEATS tk_MADE tk_IRR tk_SIGN tk_FALL tk_DIETZ tk_COUNTS tk_GREATEST_RATE tk_NOT_TO_BE_TOLD tk_SAME tk_GREATER tk_LESS : Tok}
    (aC_End : PySem.W.nsIn K mainGlobals "End" = some (some (.ref CE)))
    (pg_End : PySem.W.plainGet K CE Str.empty = true)
    (hd_End : PySem.W.hasDictIn K CE = true)
    (po_End : PySem.W.plainOver K CE = true)
    (sa_End : PySem.W.findIn K (.ref CE) "__setattr__" = some (some (.builtin "object.__setattr__")))
    (mk_End : PySem.W.makesIn K CE = true)
    (kc_End : PySem.W.keepIn K (.ref CE) = true)
    (na_End_time : PySem.W.findIn K (.ref CE) "time" = some none)
    (na_End_before : PySem.W.findIn K (.ref CE) "before" = some none)
    (na_End_behind : PySem.W.findIn K (.ref CE) "behind" = some none)
    (na_End_factors : PySem.W.findIn K (.ref CE) "factors" = some none)
    (aC_Fund : PySem.W.nsIn K mainGlobals "Fund" = some (some (.ref CF)))
    (pg_Fund : PySem.W.plainGet K CF Str.empty = true)
    (hd_Fund : PySem.W.hasDictIn K CF = true)
    (po_Fund : PySem.W.plainOver K CF = true)
    (sa_Fund : PySem.W.findIn K (.ref CF) "__setattr__" = some (some (.builtin "object.__setattr__")))
    (mk_Fund : PySem.W.makesIn K CF = true)
    (kc_Fund : PySem.W.keepIn K (.ref CF) = true)
    (na_Fund_weights : PySem.W.findIn K (.ref CF) "weights" = some none)
    (na_Fund_ends : PySem.W.findIn K (.ref CF) "ends" = some none)
    (aC_Reader : PySem.W.nsIn K mainGlobals "Reader" = some (some (.ref CR)))
    (pg_Reader : PySem.W.plainGet K CR Str.empty = true)
    (hd_Reader : PySem.W.hasDictIn K CR = true)
    (po_Reader : PySem.W.plainOver K CR = true)
    (sa_Reader : PySem.W.findIn K (.ref CR) "__setattr__" = some (some (.builtin "object.__setattr__")))
    (mk_Reader : PySem.W.makesIn K CR = true)
    (kc_Reader : PySem.W.keepIn K (.ref CR) = true)
    (na_Reader_numbers : PySem.W.findIn K (.ref CR) "numbers" = some none)
    (na_Reader_place : PySem.W.findIn K (.ref CR) "place" = some none)
    (z_sum : PySem.W.nsIn K mainGlobals "sum" = some none)
    (z_all : PySem.W.nsIn K mainGlobals "all" = some none)
    (z_any : PySem.W.nsIn K mainGlobals "any" = some none)
    (z_min : PySem.W.nsIn K mainGlobals "min" = some none)
    (z_max : PySem.W.nsIn K mainGlobals "max" = some none)
    (z_abs : PySem.W.nsIn K mainGlobals "abs" = some none)
    (z_len : PySem.W.nsIn K mainGlobals "len" = some none)
    (z_list : PySem.W.nsIn K mainGlobals "list" = some none)
    (z_zip : PySem.W.nsIn K mainGlobals "zip" = some none)
    (z_range : PySem.W.nsIn K mainGlobals "range" = some none)
    (k0_MILLION : PySem.W.nsIn K mainGlobals "MILLION" = some (some (.int (1000000) tk_MILLION)))
    (k0_NOTHING_REFUSED : PySem.W.nsIn K mainGlobals "NOTHING_REFUSED" = some (some (.int (0) tk_NOTHING_REFUSED)))
    (k0_OUT_OF_RANGE : PySem.W.nsIn K mainGlobals "OUT_OF_RANGE" = some (some (.int (-1) tk_OUT_OF_RANGE)))
    (k0_WRONG_ROW : PySem.W.nsIn K mainGlobals "WRONG_ROW" = some (some (.int (-2) tk_WRONG_ROW)))
    (k0_NO_SUCH_END : PySem.W.nsIn K mainGlobals "NO_SUCH_END" = some (some (.int (-4) tk_NO_SUCH_END)))
    (k0_NOT_AS_TOLD : PySem.W.nsIn K mainGlobals "NOT_AS_TOLD" = some (some (.int (-6) tk_NOT_AS_TOLD)))
    (k0_NOTHING_LEFT : PySem.W.nsIn K mainGlobals "NOTHING_LEFT" = some (some (.int (-7) tk_NOTHING_LEFT)))
    (k0_TOO_MANY : PySem.W.nsIn K mainGlobals "TOO_MANY" = some (some (.int (-8) tk_TOO_MANY)))
    (k0_MOST_PARTS : PySem.W.nsIn K mainGlobals "MOST_PARTS" = some (some (.int (6) tk_MOST_PARTS)))
    (k0_MOST_ENDS : PySem.W.nsIn K mainGlobals "MOST_ENDS" = some (some (.int (24) tk_MOST_ENDS)))
    (k0_MOST_AT_START : PySem.W.nsIn K mainGlobals "MOST_AT_START" = some (some (.int (1000000000) tk_MOST_AT_START)))
    (k0_MOST_VALUE : PySem.W.nsIn K mainGlobals "MOST_VALUE" = some (some (.int (1000000000000) tk_MOST_VALUE)))
    (k0_MOST_FACTOR : PySem.W.nsIn K mainGlobals "MOST_FACTOR" = some (some (.int (10000000) tk_MOST_FACTOR)))
    (k0_LATEST_TIME : PySem.W.nsIn K mainGlobals "LATEST_TIME" = some (some (.int (60) tk_LATEST_TIME)))
    (k0_GREATEST_END_NAMED : PySem.W.nsIn K mainGlobals "GREATEST_END_NAMED" = some (some (.int (60) tk_GREATEST_END_NAMED)))
    (k0_SCALE : PySem.W.nsIn K mainGlobals "SCALE" = some (some (.int (1000000000) tk_SCALE)))
    (k0_BEGIN : PySem.W.nsIn K mainGlobals "BEGIN" = some (some (.int (0) tk_BEGIN)))
    (k0_WEIGHTS : PySem.W.nsIn K mainGlobals "WEIGHTS" = some (some (.int (1) tk_WEIGHTS)))
    (k0_PERIOD : PySem.W.nsIn K mainGlobals "PERIOD" = some (some (.int (2) tk_PERIOD)))
    (k0_VALUE : PySem.W.nsIn K mainGlobals "VALUE" = some (some (.int (3) tk_VALUE)))
    (k0_LINKED : PySem.W.nsIn K mainGlobals "LINKED" = some (some (.int (4) tk_LINKED)))
    (k0_SCALED : PySem.W.nsIn K mainGlobals "SCALED" = some (some (.int (5) tk_SCALED)))
    (k0_PART : PySem.W.nsIn K mainGlobals "PART" = some (some (.int (6) tk_PART)))
    (k0_BENCH : PySem.W.nsIn K mainGlobals "BENCH" = some (some (.int (7) tk_BENCH)))
    (k0_BEATS : PySem.W.nsIn K mainGlobals "BEATS" = some (some (.int (8) tk_BEATS)))
    (k0_MADE : PySem.W.nsIn K mainGlobals "MADE" = some (some (.int (9) tk_MADE)))
    (k0_IRR : PySem.W.nsIn K mainGlobals "IRR" = some (some (.int (10) tk_IRR)))
    (k0_SIGN : PySem.W.nsIn K mainGlobals "SIGN" = some (some (.int (11) tk_SIGN)))
    (k0_FALL : PySem.W.nsIn K mainGlobals "FALL" = some (some (.int (12) tk_FALL)))
    (k0_DIETZ : PySem.W.nsIn K mainGlobals "DIETZ" = some (some (.int (13) tk_DIETZ)))
    (k0_COUNTS : PySem.W.nsIn K mainGlobals "COUNTS" = some (some (.int (14) tk_COUNTS)))
    (k0_GREATEST_RATE : PySem.W.nsIn K mainGlobals "GREATEST_RATE" = some (some (.int (10000000) tk_GREATEST_RATE)))
    (k0_NOT_TO_BE_TOLD : PySem.W.nsIn K mainGlobals "NOT_TO_BE_TOLD" = some (some (.int (-9) tk_NOT_TO_BE_TOLD)))
    (k0_SAME : PySem.W.nsIn K mainGlobals "SAME" = some (some (.int (0) tk_SAME)))
    (k0_GREATER : PySem.W.nsIn K mainGlobals "GREATER" = some (some (.int (1) tk_GREATER)))
    (k0_LESS : PySem.W.nsIn K mainGlobals "LESS" = some (some (.int (2) tk_LESS)))
    (a_VB : PySem.W.nsIn K mainGlobals "values_behind" = some (some (.ref f_VB)))
    (l_VB : K.lookup f_VB = some ⟨oc_VB, od_VB, .func (PySem.W.fnOf "values_behind" "values_behind" (defArgs sVB) (defBody sVB) (defScope sVB) .none kV_VB dc_VB pm_VB an_VB cd_VB ct_VB), sl_VB⟩)
    (c_VB : PySem.W.codeIn K cd_VB "values_behind" = true)
    (k_VB : PySem.W.keepIn K (.ref f_VB) = true)
    (a_EI : PySem.W.findIn K (.ref CE) "__init__" = some (some (.ref f_EI)))
    (i_EI : PySem.W.isFn K (.ref f_EI) = true)
    (l_EI : K.lookup f_EI = some ⟨oc_EI, od_EI, .func (PySem.W.fnOf "__init__" "End.__init__" (defArgs sEI) (defBody sEI) (defScope sEI) .none kV_EI dc_EI pm_EI an_EI cd_EI ct_EI), sl_EI⟩)
    (c_EI : PySem.W.codeIn K cd_EI "End.__init__" = true)
    (k_EI : PySem.W.keepIn K (.ref f_EI) = true)
    (a_SA : PySem.W.findIn K (.ref CF) "start_anew" = some (some (.ref f_SA)))
    (i_SA : PySem.W.isFn K (.ref f_SA) = true)
    (l_SA : K.lookup f_SA = some ⟨oc_SA, od_SA, .func (PySem.W.fnOf "start_anew" "Fund.start_anew" (defArgs sSA) (defBody sSA) (defScope sSA) .none kV_SA dc_SA pm_SA an_SA cd_SA ct_SA), sl_SA⟩)
    (c_SA : PySem.W.codeIn K cd_SA "Fund.start_anew" = true)
    (k_SA : PySem.W.keepIn K (.ref f_SA) = true)
    (a_FI : PySem.W.findIn K (.ref CF) "__init__" = some (some (.ref f_FI)))
    (i_FI : PySem.W.isFn K (.ref f_FI) = true)
    (l_FI : K.lookup f_FI = some ⟨oc_FI, od_FI, .func (PySem.W.fnOf "__init__" "Fund.__init__" (defArgs sFI) (defBody sFI) (defScope sFI) .none kV_FI dc_FI pm_FI an_FI cd_FI ct_FI), sl_FI⟩)
    (c_FI : PySem.W.codeIn K cd_FI "Fund.__init__" = true)
    (k_FI : PySem.W.keepIn K (.ref f_FI) = true)
    (a_PC : PySem.W.nsIn K mainGlobals "part_count" = some (some (.ref f_PC)))
    (l_PC : K.lookup f_PC = some ⟨oc_PC, od_PC, .func (PySem.W.fnOf "part_count" "part_count" (defArgs sPC) (defBody sPC) (defScope sPC) .none kV_PC dc_PC pm_PC an_PC cd_PC ct_PC), sl_PC⟩)
    (c_PC : PySem.W.codeIn K cd_PC "part_count" = true)
    (k_PC : PySem.W.keepIn K (.ref f_PC) = true)
    (a_AllW : PySem.W.nsIn K mainGlobals "all_within" = some (some (.ref f_AllW)))
    (l_AllW : K.lookup f_AllW = some ⟨oc_AllW, od_AllW, .func (PySem.W.fnOf "all_within" "all_within" (defArgs sAllW) (defBody sAllW) (defScope sAllW) .none kV_AllW dc_AllW pm_AllW an_AllW cd_AllW ct_AllW), sl_AllW⟩)
    (c_AllW : PySem.W.codeIn K cd_AllW "all_within" = true)
    (k_AllW : PySem.W.keepIn K (.ref f_AllW) = true)
    (a_SR : PySem.W.nsIn K mainGlobals "start_refusal" = some (some (.ref f_SR)))
    (l_SR : K.lookup f_SR = some ⟨oc_SR, od_SR, .func (PySem.W.fnOf "start_refusal" "start_refusal" (defArgs sSR) (defBody sSR) (defScope sSR) .none kV_SR dc_SR pm_SR an_SR cd_SR ct_SR), sl_SR⟩)
    (c_SR : PySem.W.codeIn K cd_SR "start_refusal" = true)
    (k_SR : PySem.W.keepIn K (.ref f_SR) = true)
    (a_WR : PySem.W.nsIn K mainGlobals "weights_refusal" = some (some (.ref f_WR)))
    (l_WR : K.lookup f_WR = some ⟨oc_WR, od_WR, .func (PySem.W.fnOf "weights_refusal" "weights_refusal" (defArgs sWR) (defBody sWR) (defScope sWR) .none kV_WR dc_WR pm_WR an_WR cd_WR ct_WR), sl_WR⟩)
    (c_WR : PySem.W.codeIn K cd_WR "weights_refusal" = true)
    (k_WR : PySem.W.keepIn K (.ref f_WR) = true)
    (a_PR : PySem.W.nsIn K mainGlobals "period_rows_refusal" = some (some (.ref f_PR)))
    (l_PR : K.lookup f_PR = some ⟨oc_PR, od_PR, .func (PySem.W.fnOf "period_rows_refusal" "period_rows_refusal" (defArgs sPR) (defBody sPR) (defScope sPR) .none kV_PR dc_PR pm_PR an_PR cd_PR ct_PR), sl_PR⟩)
    (c_PR : PySem.W.codeIn K cd_PR "period_rows_refusal" = true)
    (k_PR : PySem.W.keepIn K (.ref f_PR) = true)
    (a_GN : PySem.W.nsIn K mainGlobals "grown_from_nothing" = some (some (.ref f_GN)))
    (l_GN : K.lookup f_GN = some ⟨oc_GN, od_GN, .func (PySem.W.fnOf "grown_from_nothing" "grown_from_nothing" (defArgs sGN) (defBody sGN) (defScope sGN) .none kV_GN dc_GN pm_GN an_GN cd_GN ct_GN), sl_GN⟩)
    (c_GN : PySem.W.codeIn K cd_GN "grown_from_nothing" = true)
    (k_GN : PySem.W.keepIn K (.ref f_GN) = true)
    (a_PF : PySem.W.nsIn K mainGlobals "period_refusal" = some (some (.ref f_PF)))
    (l_PF : K.lookup f_PF = some ⟨oc_PF, od_PF, .func (PySem.W.fnOf "period_refusal" "period_refusal" (defArgs sPF) (defBody sPF) (defScope sPF) .none kV_PF dc_PF pm_PF an_PF cd_PF ct_PF), sl_PF⟩)
    (c_PF : PySem.W.codeIn K cd_PF "period_refusal" = true)
    (k_PF : PySem.W.keepIn K (.ref f_PF) = true)
    (a_ER : PySem.W.nsIn K mainGlobals "ends_refusal" = some (some (.ref f_ER)))
    (l_ER : K.lookup f_ER = some ⟨oc_ER, od_ER, .func (PySem.W.fnOf "ends_refusal" "ends_refusal" (defArgs sER) (defBody sER) (defScope sER) .none kV_ER dc_ER pm_ER an_ER cd_ER ct_ER), sl_ER⟩)
    (c_ER : PySem.W.codeIn K cd_ER "ends_refusal" = true)
    (k_ER : PySem.W.keepIn K (.ref f_ER) = true)
    (a_SP : PySem.W.nsIn K mainGlobals "span_refusal" = some (some (.ref f_SP)))
    (l_SP : K.lookup f_SP = some ⟨oc_SP, od_SP, .func (PySem.W.fnOf "span_refusal" "span_refusal" (defArgs sSP) (defBody sSP) (defScope sSP) .none kV_SP dc_SP pm_SP an_SP cd_SP ct_SP), sl_SP⟩)
    (c_SP : PySem.W.codeIn K cd_SP "span_refusal" = true)
    (k_SP : PySem.W.keepIn K (.ref f_SP) = true)
    (a_PtR : PySem.W.nsIn K mainGlobals "part_refusal" = some (some (.ref f_PtR)))
    (l_PtR : K.lookup f_PtR = some ⟨oc_PtR, od_PtR, .func (PySem.W.fnOf "part_refusal" "part_refusal" (defArgs sPtR) (defBody sPtR) (defScope sPtR) .none kV_PtR dc_PtR pm_PtR an_PtR cd_PtR ct_PtR), sl_PtR⟩)
    (c_PtR : PySem.W.codeIn K cd_PtR "part_refusal" = true)
    (k_PtR : PySem.W.keepIn K (.ref f_PtR) = true)
    (a_PS : PySem.W.nsIn K mainGlobals "part_span_refusal" = some (some (.ref f_PS)))
    (l_PS : K.lookup f_PS = some ⟨oc_PS, od_PS, .func (PySem.W.fnOf "part_span_refusal" "part_span_refusal" (defArgs sPS) (defBody sPS) (defScope sPS) .none kV_PS dc_PS pm_PS an_PS cd_PS ct_PS), sl_PS⟩)
    (c_PS : PySem.W.codeIn K cd_PS "part_span_refusal" = true)
    (k_PS : PySem.W.keepIn K (.ref f_PS) = true)
    (a_BE : PySem.W.nsIn K mainGlobals "begin" = some (some (.ref f_BE)))
    (l_BE : K.lookup f_BE = some ⟨oc_BE, od_BE, .func (PySem.W.fnOf "begin" "begin" (defArgs sBE) (defBody sBE) (defScope sBE) .none kV_BE dc_BE pm_BE an_BE cd_BE ct_BE), sl_BE⟩)
    (c_BE : PySem.W.codeIn K cd_BE "begin" = true)
    (k_BE : PySem.W.keepIn K (.ref f_BE) = true)
    (a_CW : PySem.W.nsIn K mainGlobals "change_weights" = some (some (.ref f_CW)))
    (l_CW : K.lookup f_CW = some ⟨oc_CW, od_CW, .func (PySem.W.fnOf "change_weights" "change_weights" (defArgs sCW) (defBody sCW) (defScope sCW) .none kV_CW dc_CW pm_CW an_CW cd_CW ct_CW), sl_CW⟩)
    (c_CW : PySem.W.codeIn K cd_CW "change_weights" = true)
    (k_CW : PySem.W.keepIn K (.ref f_CW) = true)
    (a_AP : PySem.W.nsIn K mainGlobals "add_period" = some (some (.ref f_AP)))
    (l_AP : K.lookup f_AP = some ⟨oc_AP, od_AP, .func (PySem.W.fnOf "add_period" "add_period" (defArgs sAP) (defBody sAP) (defScope sAP) .none kV_AP dc_AP pm_AP an_AP cd_AP ct_AP), sl_AP⟩)
    (c_AP : PySem.W.codeIn K cd_AP "add_period" = true)
    (k_AP : PySem.W.keepIn K (.ref f_AP) = true)
    (a_Gcd : PySem.W.nsIn K mainGlobals "common_divisor" = some (some (.ref f_Gcd)))
    (l_Gcd : K.lookup f_Gcd = some ⟨oc_Gcd, od_Gcd, .func (PySem.W.fnOf "common_divisor" "common_divisor" (defArgs sGcd) (defBody sGcd) (defScope sGcd) .none kV_Gcd dc_Gcd pm_Gcd an_Gcd cd_Gcd ct_Gcd), sl_Gcd⟩)
    (c_Gcd : PySem.W.codeIn K cd_Gcd "common_divisor" = true)
    (k_Gcd : PySem.W.keepIn K (.ref f_Gcd) = true)
    (a_Least : PySem.W.nsIn K mainGlobals "least" = some (some (.ref f_Least)))
    (l_Least : K.lookup f_Least = some ⟨oc_Least, od_Least, .func (PySem.W.fnOf "least" "least" (defArgs sLeast) (defBody sLeast) (defScope sLeast) .none kV_Least dc_Least pm_Least an_Least cd_Least ct_Least), sl_Least⟩)
    (c_Least : PySem.W.codeIn K cd_Least "least" = true)
    (k_Least : PySem.W.keepIn K (.ref f_Least) = true)
    (a_LF : PySem.W.nsIn K mainGlobals "linked_factor" = some (some (.ref f_LF)))
    (l_LF : K.lookup f_LF = some ⟨oc_LF, od_LF, .func (PySem.W.fnOf "linked_factor" "linked_factor" (defArgs sLF) (defBody sLF) (defScope sLF) .none kV_LF dc_LF pm_LF an_LF cd_LF ct_LF), sl_LF⟩)
    (c_LF : PySem.W.codeIn K cd_LF "linked_factor" = true)
    (k_LF : PySem.W.keepIn K (.ref f_LF) = true)
    (a_BR : PySem.W.nsIn K mainGlobals "brought" = some (some (.ref f_BR)))
    (l_BR : K.lookup f_BR = some ⟨oc_BR, od_BR, .func (PySem.W.fnOf "brought" "brought" (defArgs sBR) (defBody sBR) (defScope sBR) .none kV_BR dc_BR pm_BR an_BR cd_BR ct_BR), sl_BR⟩)
    (c_BR : PySem.W.codeIn K cd_BR "brought" = true)
    (k_BR : PySem.W.keepIn K (.ref f_BR) = true)
    (a_WF : PySem.W.nsIn K mainGlobals "weighted_factors" = some (some (.ref f_WF)))
    (l_WF : K.lookup f_WF = some ⟨oc_WF, od_WF, .func (PySem.W.fnOf "weighted_factors" "weighted_factors" (defArgs sWF) (defBody sWF) (defScope sWF) .none kV_WF dc_WF pm_WF an_WF cd_WF ct_WF), sl_WF⟩)
    (c_WF : PySem.W.codeIn K cd_WF "weighted_factors" = true)
    (k_WF : PySem.W.keepIn K (.ref f_WF) = true)
    (a_LB : PySem.W.nsIn K mainGlobals "linked_benchmark" = some (some (.ref f_LB)))
    (l_LB : K.lookup f_LB = some ⟨oc_LB, od_LB, .func (PySem.W.fnOf "linked_benchmark" "linked_benchmark" (defArgs sLB) (defBody sLB) (defScope sLB) .none kV_LB dc_LB pm_LB an_LB cd_LB ct_LB), sl_LB⟩)
    (c_LB : PySem.W.codeIn K cd_LB "linked_benchmark" = true)
    (k_LB : PySem.W.keepIn K (.ref f_LB) = true)
    (a_TV : PySem.W.nsIn K mainGlobals "tell_value" = some (some (.ref f_TV)))
    (l_TV : K.lookup f_TV = some ⟨oc_TV, od_TV, .func (PySem.W.fnOf "tell_value" "tell_value" (defArgs sTV) (defBody sTV) (defScope sTV) .none kV_TV dc_TV pm_TV an_TV cd_TV ct_TV), sl_TV⟩)
    (c_TV : PySem.W.codeIn K cd_TV "tell_value" = true)
    (k_TV : PySem.W.keepIn K (.ref f_TV) = true)
    (a_TL : PySem.W.nsIn K mainGlobals "tell_linked" = some (some (.ref f_TL)))
    (l_TL : K.lookup f_TL = some ⟨oc_TL, od_TL, .func (PySem.W.fnOf "tell_linked" "tell_linked" (defArgs sTL) (defBody sTL) (defScope sTL) .none kV_TL dc_TL pm_TL an_TL cd_TL ct_TL), sl_TL⟩)
    (c_TL : PySem.W.codeIn K cd_TL "tell_linked" = true)
    (k_TL : PySem.W.keepIn K (.ref f_TL) = true)
    (a_TS : PySem.W.nsIn K mainGlobals "tell_scaled" = some (some (.ref f_TS)))
    (l_TS : K.lookup f_TS = some ⟨oc_TS, od_TS, .func (PySem.W.fnOf "tell_scaled" "tell_scaled" (defArgs sTS) (defBody sTS) (defScope sTS) .none kV_TS dc_TS pm_TS an_TS cd_TS ct_TS), sl_TS⟩)
    (c_TS : PySem.W.codeIn K cd_TS "tell_scaled" = true)
    (k_TS : PySem.W.keepIn K (.ref f_TS) = true)
    (a_TP : PySem.W.nsIn K mainGlobals "tell_part" = some (some (.ref f_TP)))
    (l_TP : K.lookup f_TP = some ⟨oc_TP, od_TP, .func (PySem.W.fnOf "tell_part" "tell_part" (defArgs sTP) (defBody sTP) (defScope sTP) .none kV_TP dc_TP pm_TP an_TP cd_TP ct_TP), sl_TP⟩)
    (c_TP : PySem.W.codeIn K cd_TP "tell_part" = true)
    (k_TP : PySem.W.keepIn K (.ref f_TP) = true)
    (a_TB : PySem.W.nsIn K mainGlobals "tell_bench" = some (some (.ref f_TB)))
    (l_TB : K.lookup f_TB = some ⟨oc_TB, od_TB, .func (PySem.W.fnOf "tell_bench" "tell_bench" (defArgs sTB) (defBody sTB) (defScope sTB) .none kV_TB dc_TB pm_TB an_TB cd_TB ct_TB), sl_TB⟩)
    (c_TB : PySem.W.codeIn K cd_TB "tell_bench" = true)
    (k_TB : PySem.W.keepIn K (.ref f_TB) = true)
    (a_AF : PySem.W.nsIn K mainGlobals "all_flows" = some (some (.ref f_AF)))
    (l_AF : K.lookup f_AF = some ⟨oc_AF, od_AF, .func (PySem.W.fnOf "all_flows" "all_flows" (defArgs sAF) (defBody sAF) (defScope sAF) .none kV_AF dc_AF pm_AF an_AF cd_AF ct_AF), sl_AF⟩)
    (c_AF : PySem.W.codeIn K cd_AF "all_flows" = true)
    (k_AF : PySem.W.keepIn K (.ref f_AF) = true)
    (a_Pow : PySem.W.nsIn K mainGlobals "power" = some (some (.ref f_Pow)))
    (l_Pow : K.lookup f_Pow = some ⟨oc_Pow, od_Pow, .func (PySem.W.fnOf "power" "power" (defArgs sPow) (defBody sPow) (defScope sPow) .none kV_Pow dc_Pow pm_Pow an_Pow cd_Pow ct_Pow), sl_Pow⟩)
    (c_Pow : PySem.W.codeIn K cd_Pow "power" = true)
    (k_Pow : PySem.W.keepIn K (.ref f_Pow) = true)
    (a_LO : PySem.W.nsIn K mainGlobals "left_over" = some (some (.ref f_LO)))
    (l_LO : K.lookup f_LO = some ⟨oc_LO, od_LO, .func (PySem.W.fnOf "left_over" "left_over" (defArgs sLO) (defBody sLO) (defScope sLO) .none kV_LO dc_LO pm_LO an_LO cd_LO ct_LO), sl_LO⟩)
    (c_LO : PySem.W.codeIn K cd_LO "left_over" = true)
    (k_LO : PySem.W.keepIn K (.ref f_LO) = true)
    (a_MW : PySem.W.nsIn K mainGlobals "money_weighted" = some (some (.ref f_MW)))
    (l_MW : K.lookup f_MW = some ⟨oc_MW, od_MW, .func (PySem.W.fnOf "money_weighted" "money_weighted" (defArgs sMW) (defBody sMW) (defScope sMW) .none kV_MW dc_MW pm_MW an_MW cd_MW ct_MW), sl_MW⟩)
    (c_MW : PySem.W.codeIn K cd_MW "money_weighted" = true)
    (k_MW : PySem.W.keepIn K (.ref f_MW) = true)
    (a_Tm : PySem.W.nsIn K mainGlobals "times" = some (some (.ref f_Tm)))
    (l_Tm : K.lookup f_Tm = some ⟨oc_Tm, od_Tm, .func (PySem.W.fnOf "times" "times" (defArgs sTm) (defBody sTm) (defScope sTm) .none kV_Tm dc_Tm pm_Tm an_Tm cd_Tm ct_Tm), sl_Tm⟩)
    (c_Tm : PySem.W.codeIn K cd_Tm "times" = true)
    (k_Tm : PySem.W.keepIn K (.ref f_Tm) = true)
    (a_AU : PySem.W.nsIn K mainGlobals "averaged_upper" = some (some (.ref f_AU)))
    (l_AU : K.lookup f_AU = some ⟨oc_AU, od_AU, .func (PySem.W.fnOf "averaged_upper" "averaged_upper" (defArgs sAU) (defBody sAU) (defScope sAU) .none kV_AU dc_AU pm_AU an_AU cd_AU ct_AU), sl_AU⟩)
    (c_AU : PySem.W.codeIn K cd_AU "averaged_upper" = true)
    (k_AU : PySem.W.keepIn K (.ref f_AU) = true)
    (a_AVL : PySem.W.nsIn K mainGlobals "averaged_lower" = some (some (.ref f_AVL)))
    (l_AVL : K.lookup f_AVL = some ⟨oc_AVL, od_AVL, .func (PySem.W.fnOf "averaged_lower" "averaged_lower" (defArgs sAVL) (defBody sAVL) (defScope sAVL) .none kV_AVL dc_AVL pm_AVL an_AVL cd_AVL ct_AVL), sl_AVL⟩)
    (c_AVL : PySem.W.codeIn K cd_AVL "averaged_lower" = true)
    (k_AVL : PySem.W.keepIn K (.ref f_AVL) = true)
    (a_NP : PySem.W.nsIn K mainGlobals "no_period_refusal" = some (some (.ref f_NP)))
    (l_NP : K.lookup f_NP = some ⟨oc_NP, od_NP, .func (PySem.W.fnOf "no_period_refusal" "no_period_refusal" (defArgs sNP) (defBody sNP) (defScope sNP) .none kV_NP dc_NP pm_NP an_NP cd_NP ct_NP), sl_NP⟩)
    (c_NP : PySem.W.codeIn K cd_NP "no_period_refusal" = true)
    (k_NP : PySem.W.keepIn K (.ref f_NP) = true)
    (a_RR : PySem.W.nsIn K mainGlobals "rate_refusal" = some (some (.ref f_RR)))
    (l_RR : K.lookup f_RR = some ⟨oc_RR, od_RR, .func (PySem.W.fnOf "rate_refusal" "rate_refusal" (defArgs sRR) (defBody sRR) (defScope sRR) .none kV_RR dc_RR pm_RR an_RR cd_RR ct_RR), sl_RR⟩)
    (c_RR : PySem.W.codeIn K cd_RR "rate_refusal" = true)
    (k_RR : PySem.W.keepIn K (.ref f_RR) = true)
    (a_MWR : PySem.W.nsIn K mainGlobals "money_weighted_refusal" = some (some (.ref f_MWR)))
    (l_MWR : K.lookup f_MWR = some ⟨oc_MWR, od_MWR, .func (PySem.W.fnOf "money_weighted_refusal" "money_weighted_refusal" (defArgs sMWR) (defBody sMWR) (defScope sMWR) .none kV_MWR dc_MWR pm_MWR an_MWR cd_MWR ct_MWR), sl_MWR⟩)
    (c_MWR : PySem.W.codeIn K cd_MWR "money_weighted_refusal" = true)
    (k_MWR : PySem.W.keepIn K (.ref f_MWR) = true)
    (a_MR : PySem.W.nsIn K mainGlobals "made_refusal" = some (some (.ref f_MR)))
    (l_MR : K.lookup f_MR = some ⟨oc_MR, od_MR, .func (PySem.W.fnOf "made_refusal" "made_refusal" (defArgs sMR) (defBody sMR) (defScope sMR) .none kV_MR dc_MR pm_MR an_MR cd_MR ct_MR), sl_MR⟩)
    (c_MR : PySem.W.codeIn K cd_MR "made_refusal" = true)
    (k_MR : PySem.W.keepIn K (.ref f_MR) = true)
    (a_AR : PySem.W.nsIn K mainGlobals "averaged_refusal" = some (some (.ref f_AR)))
    (l_AR : K.lookup f_AR = some ⟨oc_AR, od_AR, .func (PySem.W.fnOf "averaged_refusal" "averaged_refusal" (defArgs sAR) (defBody sAR) (defScope sAR) .none kV_AR dc_AR pm_AR an_AR cd_AR ct_AR), sl_AR⟩)
    (c_AR : PySem.W.codeIn K cd_AR "averaged_refusal" = true)
    (k_AR : PySem.W.keepIn K (.ref f_AR) = true)
    (a_WG : PySem.W.nsIn K mainGlobals "weight_gap" = some (some (.ref f_WG)))
    (l_WG : K.lookup f_WG = some ⟨oc_WG, od_WG, .func (PySem.W.fnOf "weight_gap" "weight_gap" (defArgs sWG) (defBody sWG) (defScope sWG) .none kV_WG dc_WG pm_WG an_WG cd_WG ct_WG), sl_WG⟩)
    (c_WG : PySem.W.codeIn K cd_WG "weight_gap" = true)
    (k_WG : PySem.W.keepIn K (.ref f_WG) = true)
    (a_BG : PySem.W.nsIn K mainGlobals "benchmark_gap" = some (some (.ref f_BG)))
    (l_BG : K.lookup f_BG = some ⟨oc_BG, od_BG, .func (PySem.W.fnOf "benchmark_gap" "benchmark_gap" (defArgs sBG) (defBody sBG) (defScope sBG) .none kV_BG dc_BG pm_BG an_BG cd_BG ct_BG), sl_BG⟩)
    (c_BG : PySem.W.codeIn K cd_BG "benchmark_gap" = true)
    (k_BG : PySem.W.keepIn K (.ref f_BG) = true)
    (a_CG : PySem.W.nsIn K mainGlobals "choice_gap" = some (some (.ref f_CG)))
    (l_CG : K.lookup f_CG = some ⟨oc_CG, od_CG, .func (PySem.W.fnOf "choice_gap" "choice_gap" (defArgs sCG) (defBody sCG) (defScope sCG) .none kV_CG dc_CG pm_CG an_CG cd_CG ct_CG), sl_CG⟩)
    (c_CG : PySem.W.codeIn K cd_CG "choice_gap" = true)
    (k_CG : PySem.W.keepIn K (.ref f_CG) = true)
    (a_MD : PySem.W.nsIn K mainGlobals "made_difference" = some (some (.ref f_MD)))
    (l_MD : K.lookup f_MD = some ⟨oc_MD, od_MD, .func (PySem.W.fnOf "made_difference" "made_difference" (defArgs sMD) (defBody sMD) (defScope sMD) .none kV_MD dc_MD pm_MD an_MD cd_MD ct_MD), sl_MD⟩)
    (c_MD : PySem.W.codeIn K cd_MD "made_difference" = true)
    (k_MD : PySem.W.keepIn K (.ref f_MD) = true)
    (a_GF : PySem.W.nsIn K mainGlobals "greatest_fall" = some (some (.ref f_GF)))
    (l_GF : K.lookup f_GF = some ⟨oc_GF, od_GF, .func (PySem.W.fnOf "greatest_fall" "greatest_fall" (defArgs sGF) (defBody sGF) (defScope sGF) .none kV_GF dc_GF pm_GF an_GF cd_GF ct_GF), sl_GF⟩)
    (c_GF : PySem.W.codeIn K cd_GF "greatest_fall" = true)
    (k_GF : PySem.W.keepIn K (.ref f_GF) = true)
    (a_Cmp : PySem.W.nsIn K mainGlobals "compared" = some (some (.ref f_Cmp)))
    (l_Cmp : K.lookup f_Cmp = some ⟨oc_Cmp, od_Cmp, .func (PySem.W.fnOf "compared" "compared" (defArgs sCmp) (defBody sCmp) (defScope sCmp) .none kV_Cmp dc_Cmp pm_Cmp an_Cmp cd_Cmp ct_Cmp), sl_Cmp⟩)
    (c_Cmp : PySem.W.codeIn K cd_Cmp "compared" = true)
    (k_Cmp : PySem.W.keepIn K (.ref f_Cmp) = true)
    (a_TBt : PySem.W.nsIn K mainGlobals "tell_beats" = some (some (.ref f_TBt)))
    (l_TBt : K.lookup f_TBt = some ⟨oc_TBt, od_TBt, .func (PySem.W.fnOf "tell_beats" "tell_beats" (defArgs sTBt) (defBody sTBt) (defScope sTBt) .none kV_TBt dc_TBt pm_TBt an_TBt cd_TBt ct_TBt), sl_TBt⟩)
    (c_TBt : PySem.W.codeIn K cd_TBt "tell_beats" = true)
    (k_TBt : PySem.W.keepIn K (.ref f_TBt) = true)
    (a_TM : PySem.W.nsIn K mainGlobals "tell_made" = some (some (.ref f_TM)))
    (l_TM : K.lookup f_TM = some ⟨oc_TM, od_TM, .func (PySem.W.fnOf "tell_made" "tell_made" (defArgs sTM) (defBody sTM) (defScope sTM) .none kV_TM dc_TM pm_TM an_TM cd_TM ct_TM), sl_TM⟩)
    (c_TM : PySem.W.codeIn K cd_TM "tell_made" = true)
    (k_TM : PySem.W.keepIn K (.ref f_TM) = true)
    (a_TI : PySem.W.nsIn K mainGlobals "tell_irr" = some (some (.ref f_TI)))
    (l_TI : K.lookup f_TI = some ⟨oc_TI, od_TI, .func (PySem.W.fnOf "tell_irr" "tell_irr" (defArgs sTI) (defBody sTI) (defScope sTI) .none kV_TI dc_TI pm_TI an_TI cd_TI ct_TI), sl_TI⟩)
    (c_TI : PySem.W.codeIn K cd_TI "tell_irr" = true)
    (k_TI : PySem.W.keepIn K (.ref f_TI) = true)
    (a_TSg : PySem.W.nsIn K mainGlobals "tell_sign" = some (some (.ref f_TSg)))
    (l_TSg : K.lookup f_TSg = some ⟨oc_TSg, od_TSg, .func (PySem.W.fnOf "tell_sign" "tell_sign" (defArgs sTSg) (defBody sTSg) (defScope sTSg) .none kV_TSg dc_TSg pm_TSg an_TSg cd_TSg ct_TSg), sl_TSg⟩)
    (c_TSg : PySem.W.codeIn K cd_TSg "tell_sign" = true)
    (k_TSg : PySem.W.keepIn K (.ref f_TSg) = true)
    (a_TF : PySem.W.nsIn K mainGlobals "tell_fall" = some (some (.ref f_TF)))
    (l_TF : K.lookup f_TF = some ⟨oc_TF, od_TF, .func (PySem.W.fnOf "tell_fall" "tell_fall" (defArgs sTF) (defBody sTF) (defScope sTF) .none kV_TF dc_TF pm_TF an_TF cd_TF ct_TF), sl_TF⟩)
    (c_TF : PySem.W.codeIn K cd_TF "tell_fall" = true)
    (k_TF : PySem.W.keepIn K (.ref f_TF) = true)
    (a_TD : PySem.W.nsIn K mainGlobals "tell_dietz" = some (some (.ref f_TD)))
    (l_TD : K.lookup f_TD = some ⟨oc_TD, od_TD, .func (PySem.W.fnOf "tell_dietz" "tell_dietz" (defArgs sTD) (defBody sTD) (defScope sTD) .none kV_TD dc_TD pm_TD an_TD cd_TD ct_TD), sl_TD⟩)
    (c_TD : PySem.W.codeIn K cd_TD "tell_dietz" = true)
    (k_TD : PySem.W.keepIn K (.ref f_TD) = true)
    (a_TC : PySem.W.nsIn K mainGlobals "tell_counts" = some (some (.ref f_TC)))
    (l_TC : K.lookup f_TC = some ⟨oc_TC, od_TC, .func (PySem.W.fnOf "tell_counts" "tell_counts" (defArgs sTC) (defBody sTC) (defScope sTC) .none kV_TC dc_TC pm_TC an_TC cd_TC ct_TC), sl_TC⟩)
    (c_TC : PySem.W.codeIn K cd_TC "tell_counts" = true)
    (k_TC : PySem.W.keepIn K (.ref f_TC) = true)
    (a_RI : PySem.W.findIn K (.ref CR) "__init__" = some (some (.ref f_RI)))
    (i_RI : PySem.W.isFn K (.ref f_RI) = true)
    (l_RI : K.lookup f_RI = some ⟨oc_RI, od_RI, .func (PySem.W.fnOf "__init__" "Reader.__init__" (defArgs sRI) (defBody sRI) (defScope sRI) .none kV_RI dc_RI pm_RI an_RI cd_RI ct_RI), sl_RI⟩)
    (c_RI : PySem.W.codeIn K cd_RI "Reader.__init__" = true)
    (k_RI : PySem.W.keepIn K (.ref f_RI) = true)
    (a_HM : PySem.W.findIn K (.ref CR) "has_more" = some (some (.ref f_HM)))
    (i_HM : PySem.W.isFn K (.ref f_HM) = true)
    (l_HM : K.lookup f_HM = some ⟨oc_HM, od_HM, .func (PySem.W.fnOf "has_more" "Reader.has_more" (defArgs sHM) (defBody sHM) (defScope sHM) .none kV_HM dc_HM pm_HM an_HM cd_HM ct_HM), sl_HM⟩)
    (c_HM : PySem.W.codeIn K cd_HM "Reader.has_more" = true)
    (k_HM : PySem.W.keepIn K (.ref f_HM) = true)
    (a_TN : PySem.W.findIn K (.ref CR) "take_number" = some (some (.ref f_TN)))
    (i_TN : PySem.W.isFn K (.ref f_TN) = true)
    (l_TN : K.lookup f_TN = some ⟨oc_TN, od_TN, .func (PySem.W.fnOf "take_number" "Reader.take_number" (defArgs sTN) (defBody sTN) (defScope sTN) .none kV_TN dc_TN pm_TN an_TN cd_TN ct_TN), sl_TN⟩)
    (c_TN : PySem.W.codeIn K cd_TN "Reader.take_number" = true)
    (k_TN : PySem.W.keepIn K (.ref f_TN) = true)
    (a_TNS : PySem.W.findIn K (.ref CR) "take_numbers" = some (some (.ref f_TNS)))
    (i_TNS : PySem.W.isFn K (.ref f_TNS) = true)
    (l_TNS : K.lookup f_TNS = some ⟨oc_TNS, od_TNS, .func (PySem.W.fnOf "take_numbers" "Reader.take_numbers" (defArgs sTNS) (defBody sTNS) (defScope sTNS) .none kV_TNS dc_TNS pm_TNS an_TNS cd_TNS ct_TNS), sl_TNS⟩)
    (c_TNS : PySem.W.codeIn K cd_TNS "Reader.take_numbers" = true)
    (k_TNS : PySem.W.keepIn K (.ref f_TNS) = true)
    (a_TR : PySem.W.findIn K (.ref CR) "take_row" = some (some (.ref f_TR)))
    (i_TR : PySem.W.isFn K (.ref f_TR) = true)
    (l_TR : K.lookup f_TR = some ⟨oc_TR, od_TR, .func (PySem.W.fnOf "take_row" "Reader.take_row" (defArgs sTR) (defBody sTR) (defScope sTR) .none kV_TR dc_TR pm_TR an_TR cd_TR ct_TR), sl_TR⟩)
    (c_TR : PySem.W.codeIn K cd_TR "Reader.take_row" = true)
    (k_TR : PySem.W.keepIn K (.ref f_TR) = true)
    (a_AC : PySem.W.nsIn K mainGlobals "answer_change" = some (some (.ref f_AC)))
    (l_AC : K.lookup f_AC = some ⟨oc_AC, od_AC, .func (PySem.W.fnOf "answer_change" "answer_change" (defArgs sAC) (defBody sAC) (defScope sAC) .none kV_AC dc_AC pm_AC an_AC cd_AC ct_AC), sl_AC⟩)
    (c_AC : PySem.W.codeIn K cd_AC "answer_change" = true)
    (k_AC : PySem.W.keepIn K (.ref f_AC) = true)
    (a_AS : PySem.W.nsIn K mainGlobals "answer_span" = some (some (.ref f_AS)))
    (l_AS : K.lookup f_AS = some ⟨oc_AS, od_AS, .func (PySem.W.fnOf "answer_span" "answer_span" (defArgs sAS) (defBody sAS) (defScope sAS) .none kV_AS dc_AS pm_AS an_AS cd_AS ct_AS), sl_AS⟩)
    (c_AS : PySem.W.codeIn K cd_AS "answer_span" = true)
    (k_AS : PySem.W.keepIn K (.ref f_AS) = true)
    (a_AMd : PySem.W.nsIn K mainGlobals "answer_made" = some (some (.ref f_AMd)))
    (l_AMd : K.lookup f_AMd = some ⟨oc_AMd, od_AMd, .func (PySem.W.fnOf "answer_made" "answer_made" (defArgs sAMd) (defBody sAMd) (defScope sAMd) .none kV_AMd dc_AMd pm_AMd an_AMd cd_AMd ct_AMd), sl_AMd⟩)
    (c_AMd : PySem.W.codeIn K cd_AMd "answer_made" = true)
    (k_AMd : PySem.W.keepIn K (.ref f_AMd) = true)
    (a_AAl : PySem.W.nsIn K mainGlobals "answer_alone" = some (some (.ref f_AAl)))
    (l_AAl : K.lookup f_AAl = some ⟨oc_AAl, od_AAl, .func (PySem.W.fnOf "answer_alone" "answer_alone" (defArgs sAAl) (defBody sAAl) (defScope sAAl) .none kV_AAl dc_AAl pm_AAl an_AAl cd_AAl ct_AAl), sl_AAl⟩)
    (c_AAl : PySem.W.codeIn K cd_AAl "answer_alone" = true)
    (k_AAl : PySem.W.keepIn K (.ref f_AAl) = true)
    (a_AL : PySem.W.nsIn K mainGlobals "answer_call" = some (some (.ref f_AL)))
    (l_AL : K.lookup f_AL = some ⟨oc_AL, od_AL, .func (PySem.W.fnOf "answer_call" "answer_call" (defArgs sAL) (defBody sAL) (defScope sAL) .none kV_AL dc_AL pm_AL an_AL cd_AL ct_AL), sl_AL⟩)
    (c_AL : PySem.W.codeIn K cd_AL "answer_call" = true)
    (k_AL : PySem.W.keepIn K (.ref f_AL) = true)
    (a_AN : PySem.W.nsIn K mainGlobals "answers" = some (some (.ref f_AN)))
    (l_AN : K.lookup f_AN = some ⟨oc_AN, od_AN, .func (PySem.W.fnOf "answers" "answers" (defArgs sAN) (defBody sAN) (defScope sAN) .none kV_AN dc_AN pm_AN an_AN cd_AN ct_AN), sl_AN⟩)
    (c_AN : PySem.W.codeIn K cd_AN "answers" = true)
    (k_AN : PySem.W.keepIn K (.ref f_AN) = true)
    : ∃ fd : FuncData, (∀ (s : Shared) (us : List Value), us.length = (["calls"] : List Str).length → BindsTo s fd ⟨us, []⟩ ((["calls"] : List Str).zip us)) ∧ ∀ base : Heap, K.In base → base.Ns mainGlobals mg → FnOk P w K mg base CX0 8 fa fd ["calls"] (spAN K) := by
  have e := hfa.symm.trans (PySem.W.mg_of X G a_AN)
  cases e
  have T : Txt K mg CE CF CR := {
    clE := ⟨pg_End, hd_End, po_End, sa_End⟩
    aE_time := na_End_time
    aE_before := na_End_before
    aE_behind := na_End_behind
    aE_factors := na_End_factors
    clF := ⟨pg_Fund, hd_Fund, po_Fund, sa_Fund⟩
    aF_weights := na_Fund_weights
    aF_ends := na_Fund_ends
    clR := ⟨pg_Reader, hd_Reader, po_Reader, sa_Reader⟩
    aR_numbers := na_Reader_numbers
    aR_place := na_Reader_place
    nsum := PySem.W.mg_none_of X G z_sum
    nall := PySem.W.mg_none_of X G z_all
    nany := PySem.W.mg_none_of X G z_any
    nmin := PySem.W.mg_none_of X G z_min
    nmax := PySem.W.mg_none_of X G z_max
    nabs := PySem.W.mg_none_of X G z_abs
    nlen := PySem.W.mg_none_of X G z_len
    nlist := PySem.W.mg_none_of X G z_list
    nzip := PySem.W.mg_none_of X G z_zip
    nrange := PySem.W.mg_none_of X G z_range
    c_MILLION := ⟨_, PySem.W.mg_of X G k0_MILLION⟩
    c_NOTHING_REFUSED := ⟨_, PySem.W.mg_of X G k0_NOTHING_REFUSED⟩
    c_OUT_OF_RANGE := ⟨_, PySem.W.mg_of X G k0_OUT_OF_RANGE⟩
    c_WRONG_ROW := ⟨_, PySem.W.mg_of X G k0_WRONG_ROW⟩
    c_NO_SUCH_END := ⟨_, PySem.W.mg_of X G k0_NO_SUCH_END⟩
    c_NOT_AS_TOLD := ⟨_, PySem.W.mg_of X G k0_NOT_AS_TOLD⟩
    c_NOTHING_LEFT := ⟨_, PySem.W.mg_of X G k0_NOTHING_LEFT⟩
    c_TOO_MANY := ⟨_, PySem.W.mg_of X G k0_TOO_MANY⟩
    c_MOST_PARTS := ⟨_, PySem.W.mg_of X G k0_MOST_PARTS⟩
    c_MOST_ENDS := ⟨_, PySem.W.mg_of X G k0_MOST_ENDS⟩
    c_MOST_AT_START := ⟨_, PySem.W.mg_of X G k0_MOST_AT_START⟩
    c_MOST_VALUE := ⟨_, PySem.W.mg_of X G k0_MOST_VALUE⟩
    c_MOST_FACTOR := ⟨_, PySem.W.mg_of X G k0_MOST_FACTOR⟩
    c_LATEST_TIME := ⟨_, PySem.W.mg_of X G k0_LATEST_TIME⟩
    c_GREATEST_END_NAMED := ⟨_, PySem.W.mg_of X G k0_GREATEST_END_NAMED⟩
    c_SCALE := ⟨_, PySem.W.mg_of X G k0_SCALE⟩
    c_BEGIN := ⟨_, PySem.W.mg_of X G k0_BEGIN⟩
    c_WEIGHTS := ⟨_, PySem.W.mg_of X G k0_WEIGHTS⟩
    c_PERIOD := ⟨_, PySem.W.mg_of X G k0_PERIOD⟩
    c_VALUE := ⟨_, PySem.W.mg_of X G k0_VALUE⟩
    c_LINKED := ⟨_, PySem.W.mg_of X G k0_LINKED⟩
    c_SCALED := ⟨_, PySem.W.mg_of X G k0_SCALED⟩
    c_PART := ⟨_, PySem.W.mg_of X G k0_PART⟩
    c_BENCH := ⟨_, PySem.W.mg_of X G k0_BENCH⟩
    c_BEATS := ⟨_, PySem.W.mg_of X G k0_BEATS⟩
    c_MADE := ⟨_, PySem.W.mg_of X G k0_MADE⟩
    c_IRR := ⟨_, PySem.W.mg_of X G k0_IRR⟩
    c_SIGN := ⟨_, PySem.W.mg_of X G k0_SIGN⟩
    c_FALL := ⟨_, PySem.W.mg_of X G k0_FALL⟩
    c_DIETZ := ⟨_, PySem.W.mg_of X G k0_DIETZ⟩
    c_COUNTS := ⟨_, PySem.W.mg_of X G k0_COUNTS⟩
    c_GREATEST_RATE := ⟨_, PySem.W.mg_of X G k0_GREATEST_RATE⟩
    c_NOT_TO_BE_TOLD := ⟨_, PySem.W.mg_of X G k0_NOT_TO_BE_TOLD⟩
    c_SAME := ⟨_, PySem.W.mg_of X G k0_SAME⟩
    c_GREATER := ⟨_, PySem.W.mg_of X G k0_GREATER⟩
    c_LESS := ⟨_, PySem.W.mg_of X G k0_LESS⟩ }
  have F_VB := fun_mk (st := sVB) l_VB c_VB k_VB
  have b_VB := F_VB.binds (ps := ["before", "flows"]) fun _ _ _ _ _ _ us hl => match us, hl with | [_, _], _ => rfl
  have F_EI := fun_mk (st := sEI) l_EI c_EI k_EI
  have b_EI := F_EI.binds (ps := ["self", "time", "before", "flows", "factors"]) fun _ _ _ _ _ _ us hl => match us, hl with | [_, _, _, _, _], _ => rfl
  have F_SA := fun_mk (st := sSA) l_SA c_SA k_SA
  have b_SA := F_SA.binds (ps := ["self", "parts"]) fun _ _ _ _ _ _ us hl => match us, hl with | [_, _], _ => rfl
  have F_FI := fun_mk (st := sFI) l_FI c_FI k_FI
  have b_FI := F_FI.binds (ps := ["self"]) fun _ _ _ _ _ _ us hl => match us, hl with | [_], _ => rfl
  have F_PC := fun_mk (st := sPC) l_PC c_PC k_PC
  have b_PC := F_PC.binds (ps := ["fund"]) fun _ _ _ _ _ _ us hl => match us, hl with | [_], _ => rfl
  have F_AllW := fun_mk (st := sAllW) l_AllW c_AllW k_AllW
  have b_AllW := F_AllW.binds (ps := ["row", "low", "high"]) fun _ _ _ _ _ _ us hl => match us, hl with | [_, _, _], _ => rfl
  have F_SR := fun_mk (st := sSR) l_SR c_SR k_SR
  have b_SR := F_SR.binds (ps := ["row"]) fun _ _ _ _ _ _ us hl => match us, hl with | [_], _ => rfl
  have F_WR := fun_mk (st := sWR) l_WR c_WR k_WR
  have b_WR := F_WR.binds (ps := ["fund", "row"]) fun _ _ _ _ _ _ us hl => match us, hl with | [_, _], _ => rfl
  have F_PR := fun_mk (st := sPR) l_PR c_PR k_PR
  have b_PR := F_PR.binds (ps := ["fund", "before", "flows", "factors"]) fun _ _ _ _ _ _ us hl => match us, hl with | [_, _, _, _], _ => rfl
  have F_GN := fun_mk (st := sGN) l_GN c_GN k_GN
  have b_GN := F_GN.binds (ps := ["fund", "before"]) fun _ _ _ _ _ _ us hl => match us, hl with | [_, _], _ => rfl
  have F_PF := fun_mk (st := sPF) l_PF c_PF k_PF
  have b_PF := F_PF.binds (ps := ["fund", "time", "before", "flows", "factors"]) fun _ _ _ _ _ _ us hl => match us, hl with | [_, _, _, _, _], _ => rfl
  have F_ER := fun_mk (st := sER) l_ER c_ER k_ER
  have b_ER := F_ER.binds (ps := ["fund", "named"]) fun _ _ _ _ _ _ us hl => match us, hl with | [_, _], _ => rfl
  have F_SP := fun_mk (st := sSP) l_SP c_SP k_SP
  have b_SP := F_SP.binds (ps := ["fund", "j", "k"]) fun _ _ _ _ _ _ us hl => match us, hl with | [_, _, _], _ => rfl
  have F_PtR := fun_mk (st := sPtR) l_PtR c_PtR k_PtR
  have b_PtR := F_PtR.binds (ps := ["fund", "part"]) fun _ _ _ _ _ _ us hl => match us, hl with | [_, _], _ => rfl
  have F_PS := fun_mk (st := sPS) l_PS c_PS k_PS
  have b_PS := F_PS.binds (ps := ["fund", "j", "k", "part"]) fun _ _ _ _ _ _ us hl => match us, hl with | [_, _, _, _], _ => rfl
  have F_BE := fun_mk (st := sBE) l_BE c_BE k_BE
  have b_BE := F_BE.binds (ps := ["fund", "parts"]) fun _ _ _ _ _ _ us hl => match us, hl with | [_, _], _ => rfl
  have F_CW := fun_mk (st := sCW) l_CW c_CW k_CW
  have b_CW := F_CW.binds (ps := ["fund", "row"]) fun _ _ _ _ _ _ us hl => match us, hl with | [_, _], _ => rfl
  have F_AP := fun_mk (st := sAP) l_AP c_AP k_AP
  have b_AP := F_AP.binds (ps := ["fund", "time", "before", "flows", "factors"]) fun _ _ _ _ _ _ us hl => match us, hl with | [_, _, _, _, _], _ => rfl
  have F_Gcd := fun_mk (st := sGcd) l_Gcd c_Gcd k_Gcd
  have b_Gcd := F_Gcd.binds (ps := ["first", "second"]) fun _ _ _ _ _ _ us hl => match us, hl with | [_, _], _ => rfl
  have F_Least := fun_mk (st := sLeast) l_Least c_Least k_Least
  have b_Least := F_Least.binds (ps := ["over", "under"]) fun _ _ _ _ _ _ us hl => match us, hl with | [_, _], _ => rfl
  have F_LF := fun_mk (st := sLF) l_LF c_LF k_LF
  have b_LF := F_LF.binds (ps := ["fund", "j", "k"]) fun _ _ _ _ _ _ us hl => match us, hl with | [_, _, _], _ => rfl
  have F_BR := fun_mk (st := sBR) l_BR c_BR k_BR
  have b_BR := F_BR.binds (ps := ["fund", "j", "k", "part"]) fun _ _ _ _ _ _ us hl => match us, hl with | [_, _, _, _], _ => rfl
  have F_WF := fun_mk (st := sWF) l_WF c_WF k_WF
  have b_WF := F_WF.binds (ps := ["fund", "k"]) fun _ _ _ _ _ _ us hl => match us, hl with | [_, _], _ => rfl
  have F_LB := fun_mk (st := sLB) l_LB c_LB k_LB
  have b_LB := F_LB.binds (ps := ["fund", "j", "k"]) fun _ _ _ _ _ _ us hl => match us, hl with | [_, _, _], _ => rfl
  have F_TV := fun_mk (st := sTV) l_TV c_TV k_TV
  have b_TV := F_TV.binds (ps := ["fund", "k"]) fun _ _ _ _ _ _ us hl => match us, hl with | [_, _], _ => rfl
  have F_TL := fun_mk (st := sTL) l_TL c_TL k_TL
  have b_TL := F_TL.binds (ps := ["fund", "j", "k"]) fun _ _ _ _ _ _ us hl => match us, hl with | [_, _, _], _ => rfl
  have F_TS := fun_mk (st := sTS) l_TS c_TS k_TS
  have b_TS := F_TS.binds (ps := ["fund", "j", "k"]) fun _ _ _ _ _ _ us hl => match us, hl with | [_, _, _], _ => rfl
  have F_TP := fun_mk (st := sTP) l_TP c_TP k_TP
  have b_TP := F_TP.binds (ps := ["fund", "j", "k", "part"]) fun _ _ _ _ _ _ us hl => match us, hl with | [_, _, _, _], _ => rfl
  have F_TB := fun_mk (st := sTB) l_TB c_TB k_TB
  have b_TB := F_TB.binds (ps := ["fund", "j", "k"]) fun _ _ _ _ _ _ us hl => match us, hl with | [_, _, _], _ => rfl
  have F_AF := fun_mk (st := sAF) l_AF c_AF k_AF
  have b_AF := F_AF.binds (ps := ["end"]) fun _ _ _ _ _ _ us hl => match us, hl with | [_], _ => rfl
  have F_Pow := fun_mk (st := sPow) l_Pow c_Pow k_Pow
  have b_Pow := F_Pow.binds (ps := ["base", "exponent"]) fun _ _ _ _ _ _ us hl => match us, hl with | [_, _], _ => rfl
  have F_LO := fun_mk (st := sLO) l_LO c_LO k_LO
  have b_LO := F_LO.binds (ps := ["fund", "rate"]) fun _ _ _ _ _ _ us hl => match us, hl with | [_, _], _ => rfl
  have F_MW := fun_mk (st := sMW) l_MW c_MW k_MW
  have b_MW := F_MW.binds (ps := ["fund"]) fun _ _ _ _ _ _ us hl => match us, hl with | [_], _ => rfl
  have F_Tm := fun_mk (st := sTm) l_Tm c_Tm k_Tm
  have b_Tm := F_Tm.binds (ps := ["first", "second"]) fun _ _ _ _ _ _ us hl => match us, hl with | [_, _], _ => rfl
  have F_AU := fun_mk (st := sAU) l_AU c_AU k_AU
  have b_AU := F_AU.binds (ps := ["fund", "j", "k"]) fun _ _ _ _ _ _ us hl => match us, hl with | [_, _, _], _ => rfl
  have F_AVL := fun_mk (st := sAVL) l_AVL c_AVL k_AVL
  have b_AVL := F_AVL.binds (ps := ["fund", "j", "k"]) fun _ _ _ _ _ _ us hl => match us, hl with | [_, _, _], _ => rfl
  have F_NP := fun_mk (st := sNP) l_NP c_NP k_NP
  have b_NP := F_NP.binds (ps := ["fund"]) fun _ _ _ _ _ _ us hl => match us, hl with | [_], _ => rfl
  have F_RR := fun_mk (st := sRR) l_RR c_RR k_RR
  have b_RR := F_RR.binds (ps := ["fund", "rate"]) fun _ _ _ _ _ _ us hl => match us, hl with | [_, _], _ => rfl
  have F_MWR := fun_mk (st := sMWR) l_MWR c_MWR k_MWR
  have b_MWR := F_MWR.binds (ps := ["fund"]) fun _ _ _ _ _ _ us hl => match us, hl with | [_], _ => rfl
  have F_MR := fun_mk (st := sMR) l_MR c_MR k_MR
  have b_MR := F_MR.binds (ps := ["fund", "k", "part"]) fun _ _ _ _ _ _ us hl => match us, hl with | [_, _, _], _ => rfl
  have F_AR := fun_mk (st := sAR) l_AR c_AR k_AR
  have b_AR := F_AR.binds (ps := ["fund", "j", "k"]) fun _ _ _ _ _ _ us hl => match us, hl with | [_, _, _], _ => rfl
  have F_WG := fun_mk (st := sWG) l_WG c_WG k_WG
  have b_WG := F_WG.binds (ps := ["fund", "k", "place"]) fun _ _ _ _ _ _ us hl => match us, hl with | [_, _, _], _ => rfl
  have F_BG := fun_mk (st := sBG) l_BG c_BG k_BG
  have b_BG := F_BG.binds (ps := ["fund", "k", "place"]) fun _ _ _ _ _ _ us hl => match us, hl with | [_, _, _], _ => rfl
  have F_CG := fun_mk (st := sCG) l_CG c_CG k_CG
  have b_CG := F_CG.binds (ps := ["fund", "k", "place"]) fun _ _ _ _ _ _ us hl => match us, hl with | [_, _, _], _ => rfl
  have F_MD := fun_mk (st := sMD) l_MD c_MD k_MD
  have b_MD := F_MD.binds (ps := ["fund", "k", "part"]) fun _ _ _ _ _ _ us hl => match us, hl with | [_, _, _], _ => rfl
  have F_GF := fun_mk (st := sGF) l_GF c_GF k_GF
  have b_GF := F_GF.binds (ps := ["fund"]) fun _ _ _ _ _ _ us hl => match us, hl with | [_], _ => rfl
  have F_Cmp := fun_mk (st := sCmp) l_Cmp c_Cmp k_Cmp
  have b_Cmp := F_Cmp.binds (ps := ["first", "second"]) fun _ _ _ _ _ _ us hl => match us, hl with | [_, _], _ => rfl
  have F_TBt := fun_mk (st := sTBt) l_TBt c_TBt k_TBt
  have b_TBt := F_TBt.binds (ps := ["fund", "j", "k"]) fun _ _ _ _ _ _ us hl => match us, hl with | [_, _, _], _ => rfl
  have F_TM := fun_mk (st := sTM) l_TM c_TM k_TM
  have b_TM := F_TM.binds (ps := ["fund", "k", "part"]) fun _ _ _ _ _ _ us hl => match us, hl with | [_, _, _], _ => rfl
  have F_TI := fun_mk (st := sTI) l_TI c_TI k_TI
  have b_TI := F_TI.binds (ps := ["fund"]) fun _ _ _ _ _ _ us hl => match us, hl with | [_], _ => rfl
  have F_TSg := fun_mk (st := sTSg) l_TSg c_TSg k_TSg
  have b_TSg := F_TSg.binds (ps := ["fund", "rate"]) fun _ _ _ _ _ _ us hl => match us, hl with | [_, _], _ => rfl
  have F_TF := fun_mk (st := sTF) l_TF c_TF k_TF
  have b_TF := F_TF.binds (ps := ["fund"]) fun _ _ _ _ _ _ us hl => match us, hl with | [_], _ => rfl
  have F_TD := fun_mk (st := sTD) l_TD c_TD k_TD
  have b_TD := F_TD.binds (ps := ["fund", "j", "k"]) fun _ _ _ _ _ _ us hl => match us, hl with | [_, _, _], _ => rfl
  have F_TC := fun_mk (st := sTC) l_TC c_TC k_TC
  have b_TC := F_TC.binds (ps := ["fund"]) fun _ _ _ _ _ _ us hl => match us, hl with | [_], _ => rfl
  have F_RI := fun_mk (st := sRI) l_RI c_RI k_RI
  have b_RI := F_RI.binds (ps := ["self", "numbers"]) fun _ _ _ _ _ _ us hl => match us, hl with | [_, _], _ => rfl
  have F_HM := fun_mk (st := sHM) l_HM c_HM k_HM
  have b_HM := F_HM.binds (ps := ["self"]) fun _ _ _ _ _ _ us hl => match us, hl with | [_], _ => rfl
  have F_TN := fun_mk (st := sTN) l_TN c_TN k_TN
  have b_TN := F_TN.binds (ps := ["self"]) fun _ _ _ _ _ _ us hl => match us, hl with | [_], _ => rfl
  have F_TNS := fun_mk (st := sTNS) l_TNS c_TNS k_TNS
  have b_TNS := F_TNS.binds (ps := ["self", "count"]) fun _ _ _ _ _ _ us hl => match us, hl with | [_, _], _ => rfl
  have F_TR := fun_mk (st := sTR) l_TR c_TR k_TR
  have b_TR := F_TR.binds (ps := ["self"]) fun _ _ _ _ _ _ us hl => match us, hl with | [_], _ => rfl
  have F_AC := fun_mk (st := sAC) l_AC c_AC k_AC
  have b_AC := F_AC.binds (ps := ["fund", "reader", "call"]) fun _ _ _ _ _ _ us hl => match us, hl with | [_, _, _], _ => rfl
  have F_AS := fun_mk (st := sAS) l_AS c_AS k_AS
  have b_AS := F_AS.binds (ps := ["fund", "reader", "call"]) fun _ _ _ _ _ _ us hl => match us, hl with | [_, _, _], _ => rfl
  have F_AMd := fun_mk (st := sAMd) l_AMd c_AMd k_AMd
  have b_AMd := F_AMd.binds (ps := ["fund", "reader"]) fun _ _ _ _ _ _ us hl => match us, hl with | [_, _], _ => rfl
  have F_AAl := fun_mk (st := sAAl) l_AAl c_AAl k_AAl
  have b_AAl := F_AAl.binds (ps := ["fund", "call"]) fun _ _ _ _ _ _ us hl => match us, hl with | [_, _], _ => rfl
  have F_AL := fun_mk (st := sAL) l_AL c_AL k_AL
  have b_AL := F_AL.binds (ps := ["fund", "reader"]) fun _ _ _ _ _ _ us hl => match us, hl with | [_, _], _ => rfl
  have F_AN := fun_mk (st := sAN) l_AN c_AN k_AN
  have b_AN := F_AN.binds (ps := ["calls"]) fun _ _ _ _ _ _ us hl => match us, hl with | [_], _ => rfl
  refine ⟨PySem.W.fnOf "answers" "answers" (defArgs sAN) (defBody sAN) (defScope sAN) .none kV_AN dc_AN pm_AN an_AN cd_AN ct_AN, fun s us hu => match us, hu with | [_], _ => .of_eq rfl, fun base _ _ => ?_⟩
  have O_VB : FnOk P w K mg base CX0 1 f_VB _ ["before", "flows"] (spVB) := ok_VB (n := 0) F_VB T
  have C_VB : Cal P w K mg base "values_behind" 1 ["before", "flows"] (spVB) := ⟨_, _, PySem.W.mg_of X G a_VB, k_VB, b_VB, O_VB⟩
  have O_EI : FnOk P w K mg base CX0 2 f_EI _ ["self", "time", "before", "flows", "factors"] (spEI CE) := ok_EI (n := 1) F_EI T (C_VB.mono (show 1 ≤ 1 by decide))
  have N_EI : Mkr P w K mg base CE "End" 2 ["self", "time", "before", "flows", "factors"] (spEI CE) := ⟨_, _, PySem.W.mg_of X G aC_End, ⟨mk_End, a_EI, i_EI, kc_End⟩, b_EI, O_EI⟩
  have O_SA : FnOk P w K mg base CX0 4 f_SA _ ["self", "parts"] (spSA CE CF) := ok_SA (n := 2) F_SA T (N_EI.mono (show 2 ≤ 2 by decide))
  have M_SA : Mth P w K mg base CF "start_anew" 4 ["self", "parts"] (spSA CE CF) := ⟨_, _, T.clF, ⟨a_SA, i_SA, k_SA⟩, b_SA, O_SA⟩
  have O_FI : FnOk P w K mg base CX0 5 f_FI _ ["self"] (spFI CE CF) := ok_FI (n := 4) F_FI T (M_SA.mono (show 4 ≤ 4 by decide))
  have N_FI : Mkr P w K mg base CF "Fund" 5 ["self"] (spFI CE CF) := ⟨_, _, PySem.W.mg_of X G aC_Fund, ⟨mk_Fund, a_FI, i_FI, kc_Fund⟩, b_FI, O_FI⟩
  have O_PC : FnOk P w K mg base CX0 1 f_PC _ ["fund"] (spPC CE CF) := ok_PC (n := 0) F_PC T
  have C_PC : Cal P w K mg base "part_count" 1 ["fund"] (spPC CE CF) := ⟨_, _, PySem.W.mg_of X G a_PC, k_PC, b_PC, O_PC⟩
  have O_AllW : FnOk P w K mg base CX0 1 f_AllW _ ["row", "low", "high"] (spAllW) := ok_AllW (n := 0) F_AllW T
  have C_AllW : Cal P w K mg base "all_within" 1 ["row", "low", "high"] (spAllW) := ⟨_, _, PySem.W.mg_of X G a_AllW, k_AllW, b_AllW, O_AllW⟩
  have O_SR : FnOk P w K mg base CX0 2 f_SR _ ["row"] (spSR) := ok_SR (n := 1) F_SR T (C_AllW.mono (show 1 ≤ 1 by decide))
  have C_SR : Cal P w K mg base "start_refusal" 2 ["row"] (spSR) := ⟨_, _, PySem.W.mg_of X G a_SR, k_SR, b_SR, O_SR⟩
  have O_WR : FnOk P w K mg base CX0 2 f_WR _ ["fund", "row"] (spWR CE CF) := ok_WR (n := 1) F_WR T (C_AllW.mono (show 1 ≤ 1 by decide)) (C_PC.mono (show 1 ≤ 1 by decide))
  have C_WR : Cal P w K mg base "weights_refusal" 2 ["fund", "row"] (spWR CE CF) := ⟨_, _, PySem.W.mg_of X G a_WR, k_WR, b_WR, O_WR⟩
  have O_PR : FnOk P w K mg base CX0 2 f_PR _ ["fund", "before", "flows", "factors"] (spPR CE CF) := ok_PR (n := 1) F_PR T (C_AllW.mono (show 1 ≤ 1 by decide)) (C_PC.mono (show 1 ≤ 1 by decide))
  have C_PR : Cal P w K mg base "period_rows_refusal" 2 ["fund", "before", "flows", "factors"] (spPR CE CF) := ⟨_, _, PySem.W.mg_of X G a_PR, k_PR, b_PR, O_PR⟩
  have O_GN : FnOk P w K mg base CX0 1 f_GN _ ["fund", "before"] (spGN CE CF) := ok_GN (n := 0) F_GN T
  have C_GN : Cal P w K mg base "grown_from_nothing" 1 ["fund", "before"] (spGN CE CF) := ⟨_, _, PySem.W.mg_of X G a_GN, k_GN, b_GN, O_GN⟩
  have O_PF : FnOk P w K mg base CX0 3 f_PF _ ["fund", "time", "before", "flows", "factors"] (spPF CE CF) := ok_PF (n := 2) F_PF T (C_PR.mono (show 2 ≤ 2 by decide)) (C_GN.mono (show 1 ≤ 2 by decide)) (C_VB.mono (show 1 ≤ 2 by decide))
  have C_PF : Cal P w K mg base "period_refusal" 3 ["fund", "time", "before", "flows", "factors"] (spPF CE CF) := ⟨_, _, PySem.W.mg_of X G a_PF, k_PF, b_PF, O_PF⟩
  have O_ER : FnOk P w K mg base CX0 2 f_ER _ ["fund", "named"] (spER CE CF) := ok_ER (n := 1) F_ER T (C_AllW.mono (show 1 ≤ 1 by decide))
  have C_ER : Cal P w K mg base "ends_refusal" 2 ["fund", "named"] (spER CE CF) := ⟨_, _, PySem.W.mg_of X G a_ER, k_ER, b_ER, O_ER⟩
  have O_SP : FnOk P w K mg base CX0 3 f_SP _ ["fund", "j", "k"] (spSP CE CF) := ok_SP (n := 2) F_SP T (C_ER.mono (show 2 ≤ 2 by decide))
  have C_SP : Cal P w K mg base "span_refusal" 3 ["fund", "j", "k"] (spSP CE CF) := ⟨_, _, PySem.W.mg_of X G a_SP, k_SP, b_SP, O_SP⟩
  have O_PtR : FnOk P w K mg base CX0 2 f_PtR _ ["fund", "part"] (spPtR CE CF) := ok_PtR (n := 1) F_PtR T (C_PC.mono (show 1 ≤ 1 by decide))
  have C_PtR : Cal P w K mg base "part_refusal" 2 ["fund", "part"] (spPtR CE CF) := ⟨_, _, PySem.W.mg_of X G a_PtR, k_PtR, b_PtR, O_PtR⟩
  have O_PS : FnOk P w K mg base CX0 4 f_PS _ ["fund", "j", "k", "part"] (spPS CE CF) := ok_PS (n := 3) F_PS T (C_PtR.mono (show 2 ≤ 3 by decide)) (C_SP.mono (show 3 ≤ 3 by decide))
  have C_PS : Cal P w K mg base "part_span_refusal" 4 ["fund", "j", "k", "part"] (spPS CE CF) := ⟨_, _, PySem.W.mg_of X G a_PS, k_PS, b_PS, O_PS⟩
  have O_BE : FnOk P w K mg base CX0 5 f_BE _ ["fund", "parts"] (spBE CE CF) := ok_BE (n := 4) F_BE T (C_SR.mono (show 2 ≤ 4 by decide)) (M_SA.mono (show 4 ≤ 4 by decide))
  have C_BE : Cal P w K mg base "begin" 5 ["fund", "parts"] (spBE CE CF) := ⟨_, _, PySem.W.mg_of X G a_BE, k_BE, b_BE, O_BE⟩
  have O_CW : FnOk P w K mg base CX0 3 f_CW _ ["fund", "row"] (spCW CE CF) := ok_CW (n := 2) F_CW T (C_WR.mono (show 2 ≤ 2 by decide))
  have C_CW : Cal P w K mg base "change_weights" 3 ["fund", "row"] (spCW CE CF) := ⟨_, _, PySem.W.mg_of X G a_CW, k_CW, b_CW, O_CW⟩
  have O_AP : FnOk P w K mg base CX0 4 f_AP _ ["fund", "time", "before", "flows", "factors"] (spAP CE CF) := ok_AP (n := 2) F_AP T (C_PF.mono (show 3 ≤ 3 by decide)) (N_EI.mono (show 2 ≤ 2 by decide))
  have C_AP : Cal P w K mg base "add_period" 4 ["fund", "time", "before", "flows", "factors"] (spAP CE CF) := ⟨_, _, PySem.W.mg_of X G a_AP, k_AP, b_AP, O_AP⟩
  have O_Gcd : FnOk P w K mg base CX0 1 f_Gcd _ ["first", "second"] (spGcd) := ok_Gcd (n := 0) F_Gcd T
  have C_Gcd : Cal P w K mg base "common_divisor" 1 ["first", "second"] (spGcd) := ⟨_, _, PySem.W.mg_of X G a_Gcd, k_Gcd, b_Gcd, O_Gcd⟩
  have O_Least : FnOk P w K mg base CX0 2 f_Least _ ["over", "under"] (spLeast) := ok_Least (n := 1) F_Least T (C_Gcd.mono (show 1 ≤ 1 by decide))
  have C_Least : Cal P w K mg base "least" 2 ["over", "under"] (spLeast) := ⟨_, _, PySem.W.mg_of X G a_Least, k_Least, b_Least, O_Least⟩
  have O_LF : FnOk P w K mg base CX0 3 f_LF _ ["fund", "j", "k"] (spLF CE CF) := ok_LF (n := 2) F_LF T (C_Least.mono (show 2 ≤ 2 by decide))
  have C_LF : Cal P w K mg base "linked_factor" 3 ["fund", "j", "k"] (spLF CE CF) := ⟨_, _, PySem.W.mg_of X G a_LF, k_LF, b_LF, O_LF⟩
  have O_BR : FnOk P w K mg base CX0 3 f_BR _ ["fund", "j", "k", "part"] (spBR CE CF) := ok_BR (n := 2) F_BR T (C_Least.mono (show 2 ≤ 2 by decide))
  have C_BR : Cal P w K mg base "brought" 3 ["fund", "j", "k", "part"] (spBR CE CF) := ⟨_, _, PySem.W.mg_of X G a_BR, k_BR, b_BR, O_BR⟩
  have O_WF : FnOk P w K mg base CX0 1 f_WF _ ["fund", "k"] (spWF CE CF) := ok_WF (n := 0) F_WF T
  have C_WF : Cal P w K mg base "weighted_factors" 1 ["fund", "k"] (spWF CE CF) := ⟨_, _, PySem.W.mg_of X G a_WF, k_WF, b_WF, O_WF⟩
  have O_LB : FnOk P w K mg base CX0 3 f_LB _ ["fund", "j", "k"] (spLB CE CF) := ok_LB (n := 2) F_LB T (C_Least.mono (show 2 ≤ 2 by decide)) (C_WF.mono (show 1 ≤ 2 by decide))
  have C_LB : Cal P w K mg base "linked_benchmark" 3 ["fund", "j", "k"] (spLB CE CF) := ⟨_, _, PySem.W.mg_of X G a_LB, k_LB, b_LB, O_LB⟩
  have O_TV : FnOk P w K mg base CX0 3 f_TV _ ["fund", "k"] (spTV CE CF) := ok_TV (n := 2) F_TV T (C_ER.mono (show 2 ≤ 2 by decide))
  have C_TV : Cal P w K mg base "tell_value" 3 ["fund", "k"] (spTV CE CF) := ⟨_, _, PySem.W.mg_of X G a_TV, k_TV, b_TV, O_TV⟩
  have O_TL : FnOk P w K mg base CX0 4 f_TL _ ["fund", "j", "k"] (spTL CE CF) := ok_TL (n := 3) F_TL T (C_SP.mono (show 3 ≤ 3 by decide)) (C_LF.mono (show 3 ≤ 3 by decide))
  have C_TL : Cal P w K mg base "tell_linked" 4 ["fund", "j", "k"] (spTL CE CF) := ⟨_, _, PySem.W.mg_of X G a_TL, k_TL, b_TL, O_TL⟩
  have O_TS : FnOk P w K mg base CX0 4 f_TS _ ["fund", "j", "k"] (spTS CE CF) := ok_TS (n := 3) F_TS T (C_SP.mono (show 3 ≤ 3 by decide)) (C_LF.mono (show 3 ≤ 3 by decide))
  have C_TS : Cal P w K mg base "tell_scaled" 4 ["fund", "j", "k"] (spTS CE CF) := ⟨_, _, PySem.W.mg_of X G a_TS, k_TS, b_TS, O_TS⟩
  have O_TP : FnOk P w K mg base CX0 5 f_TP _ ["fund", "j", "k", "part"] (spTP CE CF) := ok_TP (n := 4) F_TP T (C_PS.mono (show 4 ≤ 4 by decide)) (C_BR.mono (show 3 ≤ 4 by decide))
  have C_TP : Cal P w K mg base "tell_part" 5 ["fund", "j", "k", "part"] (spTP CE CF) := ⟨_, _, PySem.W.mg_of X G a_TP, k_TP, b_TP, O_TP⟩
  have O_TB : FnOk P w K mg base CX0 4 f_TB _ ["fund", "j", "k"] (spTB CE CF) := ok_TB (n := 3) F_TB T (C_SP.mono (show 3 ≤ 3 by decide)) (C_LB.mono (show 3 ≤ 3 by decide))
  have C_TB : Cal P w K mg base "tell_bench" 4 ["fund", "j", "k"] (spTB CE CF) := ⟨_, _, PySem.W.mg_of X G a_TB, k_TB, b_TB, O_TB⟩
  have O_AF : FnOk P w K mg base CX0 1 f_AF _ ["end"] (spAF CE) := ok_AF (n := 0) F_AF T
  have C_AF : Cal P w K mg base "all_flows" 1 ["end"] (spAF CE) := ⟨_, _, PySem.W.mg_of X G a_AF, k_AF, b_AF, O_AF⟩
  have O_Pow : FnOk P w K mg base CX0 1 f_Pow _ ["base", "exponent"] (spPow) := ok_Pow (n := 0) F_Pow T
  have C_Pow : Cal P w K mg base "power" 1 ["base", "exponent"] (spPow) := ⟨_, _, PySem.W.mg_of X G a_Pow, k_Pow, b_Pow, O_Pow⟩
  have O_LO : FnOk P w K mg base CX0 2 f_LO _ ["fund", "rate"] (spLO CE CF) := ok_LO (n := 1) F_LO T (C_Pow.mono (show 1 ≤ 1 by decide)) (C_AF.mono (show 1 ≤ 1 by decide))
  have C_LO : Cal P w K mg base "left_over" 2 ["fund", "rate"] (spLO CE CF) := ⟨_, _, PySem.W.mg_of X G a_LO, k_LO, b_LO, O_LO⟩
  have O_MW : FnOk P w K mg base CX0 3 f_MW _ ["fund"] (spMW CE CF) := ok_MW (n := 2) F_MW T (C_LO.mono (show 2 ≤ 2 by decide))
  have C_MW : Cal P w K mg base "money_weighted" 3 ["fund"] (spMW CE CF) := ⟨_, _, PySem.W.mg_of X G a_MW, k_MW, b_MW, O_MW⟩
  have O_Tm : FnOk P w K mg base CX0 3 f_Tm _ ["first", "second"] (spTm) := ok_Tm (n := 2) F_Tm T (C_Least.mono (show 2 ≤ 2 by decide))
  have C_Tm : Cal P w K mg base "times" 3 ["first", "second"] (spTm) := ⟨_, _, PySem.W.mg_of X G a_Tm, k_Tm, b_Tm, O_Tm⟩
  have O_AU : FnOk P w K mg base CX0 2 f_AU _ ["fund", "j", "k"] (spAU CE CF) := ok_AU (n := 1) F_AU T (C_AF.mono (show 1 ≤ 1 by decide))
  have C_AU : Cal P w K mg base "averaged_upper" 2 ["fund", "j", "k"] (spAU CE CF) := ⟨_, _, PySem.W.mg_of X G a_AU, k_AU, b_AU, O_AU⟩
  have O_AVL : FnOk P w K mg base CX0 2 f_AVL _ ["fund", "j", "k"] (spAVL CE CF) := ok_AVL (n := 1) F_AVL T (C_AF.mono (show 1 ≤ 1 by decide))
  have C_AVL : Cal P w K mg base "averaged_lower" 2 ["fund", "j", "k"] (spAVL CE CF) := ⟨_, _, PySem.W.mg_of X G a_AVL, k_AVL, b_AVL, O_AVL⟩
  have O_NP : FnOk P w K mg base CX0 1 f_NP _ ["fund"] (spNP CE CF) := ok_NP (n := 0) F_NP T
  have C_NP : Cal P w K mg base "no_period_refusal" 1 ["fund"] (spNP CE CF) := ⟨_, _, PySem.W.mg_of X G a_NP, k_NP, b_NP, O_NP⟩
  have O_RR : FnOk P w K mg base CX0 2 f_RR _ ["fund", "rate"] (spRR CE CF) := ok_RR (n := 1) F_RR T (C_NP.mono (show 1 ≤ 1 by decide))
  have C_RR : Cal P w K mg base "rate_refusal" 2 ["fund", "rate"] (spRR CE CF) := ⟨_, _, PySem.W.mg_of X G a_RR, k_RR, b_RR, O_RR⟩
  have O_MWR : FnOk P w K mg base CX0 3 f_MWR _ ["fund"] (spMWR CE CF) := ok_MWR (n := 2) F_MWR T (C_NP.mono (show 1 ≤ 2 by decide)) (C_LO.mono (show 2 ≤ 2 by decide))
  have C_MWR : Cal P w K mg base "money_weighted_refusal" 3 ["fund"] (spMWR CE CF) := ⟨_, _, PySem.W.mg_of X G a_MWR, k_MWR, b_MWR, O_MWR⟩
  have O_MR : FnOk P w K mg base CX0 3 f_MR _ ["fund", "k", "part"] (spMR CE CF) := ok_MR (n := 2) F_MR T (C_PtR.mono (show 2 ≤ 2 by decide)) (C_ER.mono (show 2 ≤ 2 by decide))
  have C_MR : Cal P w K mg base "made_refusal" 3 ["fund", "k", "part"] (spMR CE CF) := ⟨_, _, PySem.W.mg_of X G a_MR, k_MR, b_MR, O_MR⟩
  have O_AR : FnOk P w K mg base CX0 4 f_AR _ ["fund", "j", "k"] (spAR CE CF) := ok_AR (n := 3) F_AR T (C_SP.mono (show 3 ≤ 3 by decide)) (C_AVL.mono (show 2 ≤ 3 by decide))
  have C_AR : Cal P w K mg base "averaged_refusal" 4 ["fund", "j", "k"] (spAR CE CF) := ⟨_, _, PySem.W.mg_of X G a_AR, k_AR, b_AR, O_AR⟩
  have O_WG : FnOk P w K mg base CX0 3 f_WG _ ["fund", "k", "place"] (spGap CE CF FM.wgR) := ok_WG (n := 2) F_WG T (C_Least.mono (show 2 ≤ 2 by decide))
  have C_WG : Cal P w K mg base "weight_gap" 3 ["fund", "k", "place"] (spGap CE CF FM.wgR) := ⟨_, _, PySem.W.mg_of X G a_WG, k_WG, b_WG, O_WG⟩
  have O_BG : FnOk P w K mg base CX0 3 f_BG _ ["fund", "k", "place"] (spGap CE CF FM.bgR) := ok_BG (n := 2) F_BG T (C_Least.mono (show 2 ≤ 2 by decide)) (C_WF.mono (show 1 ≤ 2 by decide))
  have C_BG : Cal P w K mg base "benchmark_gap" 3 ["fund", "k", "place"] (spGap CE CF FM.bgR) := ⟨_, _, PySem.W.mg_of X G a_BG, k_BG, b_BG, O_BG⟩
  have O_CG : FnOk P w K mg base CX0 3 f_CG _ ["fund", "k", "place"] (spGap CE CF FM.cgR) := ok_CG (n := 2) F_CG T (C_Least.mono (show 2 ≤ 2 by decide))
  have C_CG : Cal P w K mg base "choice_gap" 3 ["fund", "k", "place"] (spGap CE CF FM.cgR) := ⟨_, _, PySem.W.mg_of X G a_CG, k_CG, b_CG, O_CG⟩
  have O_MD : FnOk P w K mg base CX0 4 f_MD _ ["fund", "k", "part"] (spMD CE CF) := ok_MD (n := 3) F_MD T (C_WG.mono (show 3 ≤ 3 by decide)) (C_CG.mono (show 3 ≤ 3 by decide)) (C_BG.mono (show 3 ≤ 3 by decide)) (C_Tm.mono (show 3 ≤ 3 by decide))
  have C_MD : Cal P w K mg base "made_difference" 4 ["fund", "k", "part"] (spMD CE CF) := ⟨_, _, PySem.W.mg_of X G a_MD, k_MD, b_MD, O_MD⟩
  have O_GF : FnOk P w K mg base CX0 3 f_GF _ ["fund"] (spGF CE CF) := ok_GF (n := 2) F_GF T (C_Least.mono (show 2 ≤ 2 by decide))
  have C_GF : Cal P w K mg base "greatest_fall" 3 ["fund"] (spGF CE CF) := ⟨_, _, PySem.W.mg_of X G a_GF, k_GF, b_GF, O_GF⟩
  have O_Cmp : FnOk P w K mg base CX0 1 f_Cmp _ ["first", "second"] (spCmp) := ok_Cmp (n := 0) F_Cmp T
  have C_Cmp : Cal P w K mg base "compared" 1 ["first", "second"] (spCmp) := ⟨_, _, PySem.W.mg_of X G a_Cmp, k_Cmp, b_Cmp, O_Cmp⟩
  have O_TBt : FnOk P w K mg base CX0 4 f_TBt _ ["fund", "j", "k"] (spTBt CE CF) := ok_TBt (n := 3) F_TBt T (C_SP.mono (show 3 ≤ 3 by decide)) (C_LF.mono (show 3 ≤ 3 by decide)) (C_LB.mono (show 3 ≤ 3 by decide)) (C_Cmp.mono (show 1 ≤ 3 by decide))
  have C_TBt : Cal P w K mg base "tell_beats" 4 ["fund", "j", "k"] (spTBt CE CF) := ⟨_, _, PySem.W.mg_of X G a_TBt, k_TBt, b_TBt, O_TBt⟩
  have O_TM : FnOk P w K mg base CX0 5 f_TM _ ["fund", "k", "part"] (spTM CE CF) := ok_TM (n := 4) F_TM T (C_MR.mono (show 3 ≤ 4 by decide)) (C_MD.mono (show 4 ≤ 4 by decide))
  have C_TM : Cal P w K mg base "tell_made" 5 ["fund", "k", "part"] (spTM CE CF) := ⟨_, _, PySem.W.mg_of X G a_TM, k_TM, b_TM, O_TM⟩
  have O_TI : FnOk P w K mg base CX0 4 f_TI _ ["fund"] (spTI CE CF) := ok_TI (n := 3) F_TI T (C_MWR.mono (show 3 ≤ 3 by decide)) (C_MW.mono (show 3 ≤ 3 by decide))
  have C_TI : Cal P w K mg base "tell_irr" 4 ["fund"] (spTI CE CF) := ⟨_, _, PySem.W.mg_of X G a_TI, k_TI, b_TI, O_TI⟩
  have O_TSg : FnOk P w K mg base CX0 3 f_TSg _ ["fund", "rate"] (spTSg CE CF) := ok_TSg (n := 2) F_TSg T (C_RR.mono (show 2 ≤ 2 by decide)) (C_LO.mono (show 2 ≤ 2 by decide)) (C_Cmp.mono (show 1 ≤ 2 by decide))
  have C_TSg : Cal P w K mg base "tell_sign" 3 ["fund", "rate"] (spTSg CE CF) := ⟨_, _, PySem.W.mg_of X G a_TSg, k_TSg, b_TSg, O_TSg⟩
  have O_TF : FnOk P w K mg base CX0 4 f_TF _ ["fund"] (spTF CE CF) := ok_TF (n := 3) F_TF T (C_GF.mono (show 3 ≤ 3 by decide))
  have C_TF : Cal P w K mg base "tell_fall" 4 ["fund"] (spTF CE CF) := ⟨_, _, PySem.W.mg_of X G a_TF, k_TF, b_TF, O_TF⟩
  have O_TD : FnOk P w K mg base CX0 5 f_TD _ ["fund", "j", "k"] (spTD CE CF) := ok_TD (n := 4) F_TD T (C_AR.mono (show 4 ≤ 4 by decide)) (C_Least.mono (show 2 ≤ 4 by decide)) (C_AU.mono (show 2 ≤ 4 by decide)) (C_AVL.mono (show 2 ≤ 4 by decide))
  have C_TD : Cal P w K mg base "tell_dietz" 5 ["fund", "j", "k"] (spTD CE CF) := ⟨_, _, PySem.W.mg_of X G a_TD, k_TD, b_TD, O_TD⟩
  have O_TC : FnOk P w K mg base CX0 2 f_TC _ ["fund"] (spTC CE CF) := ok_TC (n := 1) F_TC T (C_PC.mono (show 1 ≤ 1 by decide))
  have C_TC : Cal P w K mg base "tell_counts" 2 ["fund"] (spTC CE CF) := ⟨_, _, PySem.W.mg_of X G a_TC, k_TC, b_TC, O_TC⟩
  have O_RI : FnOk P w K mg base CX0 1 f_RI _ ["self", "numbers"] (spRI K CR) := ok_RI (n := 0) F_RI T
  have N_RI : Mkr P w K mg base CR "Reader" 1 ["self", "numbers"] (spRI K CR) := ⟨_, _, PySem.W.mg_of X G aC_Reader, ⟨mk_Reader, a_RI, i_RI, kc_Reader⟩, b_RI, O_RI⟩
  have O_HM : FnOk P w K mg base CX0 1 f_HM _ ["self"] (spHM K CR) := ok_HM (n := 0) F_HM T
  have M_HM : Mth P w K mg base CR "has_more" 1 ["self"] (spHM K CR) := ⟨_, _, T.clR, ⟨a_HM, i_HM, k_HM⟩, b_HM, O_HM⟩
  have O_TN : FnOk P w K mg base CX0 1 f_TN _ ["self"] (spTN K CR) := ok_TN (n := 0) F_TN T
  have M_TN : Mth P w K mg base CR "take_number" 1 ["self"] (spTN K CR) := ⟨_, _, T.clR, ⟨a_TN, i_TN, k_TN⟩, b_TN, O_TN⟩
  have O_TNS : FnOk P w K mg base CX0 1 f_TNS _ ["self", "count"] (spTNS K CR) := ok_TNS (n := 0) F_TNS T
  have M_TNS : Mth P w K mg base CR "take_numbers" 1 ["self", "count"] (spTNS K CR) := ⟨_, _, T.clR, ⟨a_TNS, i_TNS, k_TNS⟩, b_TNS, O_TNS⟩
  have O_TR : FnOk P w K mg base CX0 2 f_TR _ ["self"] (spTR K CR) := ok_TR (n := 1) F_TR T (M_TN.mono (show 1 ≤ 1 by decide)) (M_TNS.mono (show 1 ≤ 1 by decide))
  have M_TR : Mth P w K mg base CR "take_row" 2 ["self"] (spTR K CR) := ⟨_, _, T.clR, ⟨a_TR, i_TR, k_TR⟩, b_TR, O_TR⟩
  have O_AC : FnOk P w K mg base CX0 6 f_AC _ ["fund", "reader", "call"] (spD K CE CF CR fun c => c = 0 ∨ c = 1 ∨ c = 2) := ok_AC (n := 5) F_AC T (M_TR.mono (show 2 ≤ 5 by decide)) (M_TN.mono (show 1 ≤ 5 by decide)) (C_BE.mono (show 5 ≤ 5 by decide)) (C_CW.mono (show 3 ≤ 5 by decide)) (C_AP.mono (show 4 ≤ 5 by decide))
  have C_AC : Cal P w K mg base "answer_change" 6 ["fund", "reader", "call"] (spD K CE CF CR fun c => c = 0 ∨ c = 1 ∨ c = 2) := ⟨_, _, PySem.W.mg_of X G a_AC, k_AC, b_AC, O_AC⟩
  have O_AS : FnOk P w K mg base CX0 6 f_AS _ ["fund", "reader", "call"] (spD K CE CF CR fun c => c = 4 ∨ c = 5 ∨ c = 6 ∨ c = 7 ∨ c = 8 ∨ c = 13) := ok_AS (n := 5) F_AS T (M_TN.mono (show 1 ≤ 5 by decide)) (C_TL.mono (show 4 ≤ 5 by decide)) (C_TS.mono (show 4 ≤ 5 by decide)) (C_TP.mono (show 5 ≤ 5 by decide)) (C_TB.mono (show 4 ≤ 5 by decide)) (C_TBt.mono (show 4 ≤ 5 by decide)) (C_TD.mono (show 5 ≤ 5 by decide))
  have C_AS : Cal P w K mg base "answer_span" 6 ["fund", "reader", "call"] (spD K CE CF CR fun c => c = 4 ∨ c = 5 ∨ c = 6 ∨ c = 7 ∨ c = 8 ∨ c = 13) := ⟨_, _, PySem.W.mg_of X G a_AS, k_AS, b_AS, O_AS⟩
  have O_AMd : FnOk P w K mg base CX0 6 f_AMd _ ["fund", "reader"] (spAMd K CE CF CR) := ok_AMd (n := 5) F_AMd T (M_TN.mono (show 1 ≤ 5 by decide)) (C_TM.mono (show 5 ≤ 5 by decide))
  have C_AMd : Cal P w K mg base "answer_made" 6 ["fund", "reader"] (spAMd K CE CF CR) := ⟨_, _, PySem.W.mg_of X G a_AMd, k_AMd, b_AMd, O_AMd⟩
  have O_AAl : FnOk P w K mg base CX0 5 f_AAl _ ["fund", "call"] (spAAl CE CF) := ok_AAl (n := 4) F_AAl T (C_TI.mono (show 4 ≤ 4 by decide)) (C_TF.mono (show 4 ≤ 4 by decide)) (C_TC.mono (show 2 ≤ 4 by decide))
  have C_AAl : Cal P w K mg base "answer_alone" 5 ["fund", "call"] (spAAl CE CF) := ⟨_, _, PySem.W.mg_of X G a_AAl, k_AAl, b_AAl, O_AAl⟩
  have O_AL : FnOk P w K mg base CX0 7 f_AL _ ["fund", "reader"] (spAL K CE CF CR) := ok_AL (n := 6) F_AL T (M_TN.mono (show 1 ≤ 6 by decide)) (C_TV.mono (show 3 ≤ 6 by decide)) (C_TSg.mono (show 3 ≤ 6 by decide)) (C_AC.mono (show 6 ≤ 6 by decide)) (C_AS.mono (show 6 ≤ 6 by decide)) (C_AMd.mono (show 6 ≤ 6 by decide)) (C_AAl.mono (show 5 ≤ 6 by decide))
  have C_AL : Cal P w K mg base "answer_call" 7 ["fund", "reader"] (spAL K CE CF CR) := ⟨_, _, PySem.W.mg_of X G a_AL, k_AL, b_AL, O_AL⟩
  have O_AN : FnOk P w K mg base CX0 8 fa _ ["calls"] (spAN K) := ok_AN (n := 6) F_AN T (N_RI.mono (show 1 ≤ 6 by decide)) (N_FI.mono (show 5 ≤ 6 by decide)) (M_HM.mono (show 1 ≤ 7 by decide)) (C_AL.mono (show 7 ≤ 7 by decide))
  exact O_AN
end FB
def PySem.W.Fast.tw13140853997432758207 : Nat := 0
def PySem.W.Fast.tw14106984808530201860 : Nat := 0
def PySem.W.Fast.tw16647484778192754706 : Nat := 0
def PySem.W.Fast.tw10671852035979945448 : Nat := 0
def PySem.W.Fast.tw14205821645251390774 : Nat := 0
def PySem.W.Fast.tw10631794019322190907 : Nat := 0
def PySem.W.Fast.tw13014203073400580401 : Nat := 0
def PySem.W.Fast.tw8023488092856235707 : Nat := 0
def PySem.W.Fast.tw15225885802743592717 : Nat := 0
def PySem.W.Fast.tw11075653143240324213 : Nat := 0
def PySem.W.Fast.tw12804709594344652765 : Nat := 0
def PySem.W.Fast.tw13265068223958524938 : Nat := 0
def PySem.W.Fast.tw17541480189759830207 : Nat := 0
def PySem.W.Fast.tw14705886026400788272 : Nat := 0
def PySem.W.Fast.tw2264231880757539044 : Nat := 0
def PySem.W.Fast.tw7259517202718592732 : Nat := 0
def PySem.W.Fast.tw4946771195585067348 : Nat := 0
def PySem.W.Fast.tw16547832751588888195 : Nat := 0
def PySem.W.Fast.tw9472684078043012616 : Nat := 0
def PySem.W.Fast.tw9088676045927915559 : Nat := 0
def PySem.W.Fast.tw12631653578439312338 : Nat := 0
def PySem.W.Fast.tw6818146890047502352 : Nat := 0
def PySem.W.Fast.tw5090768467788492689 : Nat := 0
def PySem.W.Fast.tw796229200321710507 : Nat := 0
def PySem.W.Fast.tw18065443657945031305 : Nat := 0
def PySem.W.Fast.tw12747496451023146539 : Nat := 0
def PySem.W.Fast.tw13635073643778744638 : Nat := 0
def PySem.W.Fast.tw2944067896654124629 : Nat := 0
def PySem.W.Fast.tw7180630679611069564 : Nat := 0
def PySem.W.Fast.tw17122813419363461438 : Nat := 0
def PySem.W.Fast.tw3826264002545060897 : Nat := 0
def PySem.W.Fast.tw4960426885659024753 : Nat := 0
def PySem.W.Fast.tw4348568392316612976 : Nat := 0
def PySem.W.Fast.tw2941186799417309692 : Nat := 0
def PySem.W.Fast.tw1890029141415896828 : Nat := 0
def PySem.W.Fast.tw3016666873085338368 : Nat := 0
def PySem.W.Fast.tw17773095921606411471 : Nat := 0
def PySem.W.Fast.tw9592867334374463823 : Nat := 0
def PySem.W.Fast.tw18324285998078768931 : Nat := 0
def PySem.W.Fast.tw6930719016889926452 : Nat := 0
def PySem.W.Fast.tw159707570087274464 : Nat := 0
def PySem.W.Fast.tw8880335400515364219 : Nat := 0
def PySem.W.Fast.tw2180538553119268020 : Nat := 0
def PySem.W.Fast.tw12982138421565989088 : Nat := 0
def PySem.W.Fast.tw13653163507827486694 : Nat := 0
def PySem.W.Fast.tw1495654060639484827 : Nat := 0
def PySem.W.Fast.tw8840706033115493374 : Nat := 0
def PySem.W.Fast.tw6777447704138695979 : Nat := 0
def PySem.W.Fast.tw9130578820846794197 : Nat := 0
def PySem.W.Fast.tw5641092163423095602 : Nat := 0
def PySem.W.Fast.tw5358678635597673361 : Nat := 0
def PySem.W.Fast.tw2754861272698747889 : Nat := 0
def PySem.W.Fast.tw11002266267634495145 : Nat := 0
def PySem.W.Fast.tw17306940250493565049 : Nat := 0
def PySem.W.Fast.tw16487449616936726387 : Nat := 0
def PySem.W.Fast.tw3461679041140233610 : Nat := 0
def PySem.W.Fast.tw9480529426301437768 : Nat := 0
def PySem.W.Fast.tw16135034958068237582 : Nat := 0
def PySem.W.Fast.tw16056685134310887688 : Nat := 0
def PySem.W.Fast.tw7438002426897562538 : Nat := 0
def PySem.W.Fast.tw4327317225293694556 : Nat := 0
def PySem.W.Fast.tw17718696904284103383 : Nat := 0
def PySem.W.Fast.tw5426371163268634501 : Nat := 0
def PySem.W.Fast.tw17957198799333509730 : Nat := 0
def PySem.W.Fast.tw5278439704354125849 : Nat := 0
def PySem.W.Fast.tw3526554630892301156 : Nat := 0
def PySem.W.Fast.tw16208387119429139901 : Nat := 0
def PySem.W.Fast.tw9877430171026686329 : Nat := 0
def PySem.W.Fast.tw16678276776827654605 : Nat := 0
def PySem.W.Fast.tw12050993985850527721 : Nat := 0
def PySem.W.Fast.tw10594003481903180722 : Nat := 0
def PySem.W.Fast.tw6687990810668085480 : Nat := 0
def PySem.W.Fast.tw14759805151004778958 : Nat := 0
def PySem.W.Fast.tw8079372206357702934 : Nat := 0
def PySem.W.Fast.tw9751729630051789580 : Nat := 0
def PySem.W.Fast.tw1056219025222731969 : Nat := 0
def PySem.W.Fast.tw9488308778537291166 : Nat := 0
def PySem.W.Fast.tw9251390988527427112 : Nat := 0
def PySem.W.Fast.tw11731711826781896826 : Nat := 0
def PySem.W.Fast.tw8716114194893311004 : Nat := 0
def PySem.W.Fast.tw8309482421796491810 : Nat := 0
def PySem.W.Fast.tw12252018474263748648 : Nat := 0
def PySem.W.Fast.tw12617536537992454473 : Nat := 0
def PySem.W.Fast.tw3631097318135061201 : Nat := 0
def PySem.W.Fast.tw10747671533282006456 : Nat := 0
def PySem.W.Fast.tw7582901816943802220 : Nat := 0
def PySem.W.Fast.tw12699696583019886477 : Nat := 0
def PySem.W.Fast.tw2513279087166217827 : Nat := 0
def PySem.W.Fast.tw4425671397212976179 : Nat := 0
def PySem.W.Fast.tw4990607357092131201 : Nat := 0
def PySem.W.Fast.tw15533691438479697366 : Nat := 0
def PySem.W.Fast.tw2956622875154768123 : Nat := 0
def PySem.W.Fast.tw8166093835935528954 : Nat := 0
def PySem.W.Fast.tw10873776344420683997 : Nat := 0
def PySem.W.Fast.tw4758154499011263425 : Nat := 0
def PySem.W.Fast.tw4225516385498255921 : Nat := 0
def PySem.W.Fast.tw16356358069720954284 : Nat := 0
def PySem.W.Fast.tw12012468771347340188 : Nat := 0
def PySem.W.Fast.tw4668173420594372950 : Nat := 0
def PySem.W.Fast.tw5267757125212371906 : Nat := 0
def PySem.W.Fast.tw4498035265548835511 : Nat := 0
def PySem.W.Fast.tw12776653629477767943 : Nat := 0
def PySem.W.Fast.tw17811855357350878200 : Nat := 0
def PySem.W.Fast.tw3047533364264593553 : Nat := 0
def PySem.W.Fast.tw17644373284545225850 : Nat := 0
def PySem.W.Fast.tw15153809019149651104 : Nat := 0
def PySem.W.Fast.tw5800941139626585480 : Nat := 0
def PySem.W.Fast.tw9167926512715196698 : Nat := 0
def PySem.W.Fast.tw1195159627551939716 : Nat := 0
def PySem.W.Fast.tw18022643926758906714 : Nat := 0
def PySem.W.Fast.tw6807604407553588287 : Nat := 0
def PySem.W.Fast.tw652290904039669197 : Nat := 0
def PySem.W.Fast.tw451293195374615070 : Nat := 0
def PySem.W.Fast.tw16012087361815489383 : Nat := 0
def PySem.W.Fast.tw7379261220048964535 : Nat := 0
def PySem.W.Fast.tw16832266811541499950 : Nat := 0
def PySem.W.Fast.tw14322675460370425589 : Nat := 0
def PySem.W.Fast.tw1252319324542384038 : Nat := 0
def PySem.W.Fast.tw15853836260422997101 : Nat := 0
def PySem.W.Fast.tw3604228333424425607 : Nat := 0
def PySem.W.Fast.tw9373040039736798366 : Nat := 0
def PySem.W.Fast.tw11330514298941196675 : Nat := 0
def PySem.W.Fast.tw8613322513913448492 : Nat := 0
def PySem.W.Fast.tw12260801186274819206 : Nat := 0
def PySem.W.Fast.tw7610892364404660313 : Nat := 0
def PySem.W.Fast.tw1437760305108911474 : Nat := 0
def PySem.W.Fast.tw11512267556426191496 : Nat := 0
def PySem.W.Fast.tw3948999778351440886 : Nat := 0
def PySem.W.Fast.tw11545647967107976215 : Nat := 0
def PySem.W.Fast.tw17591461547236313051 : Nat := 0
def PySem.W.Fast.tw2417737793797307208 : Nat := 0
def PySem.W.Fast.tw15071442933823060141 : Nat := 0
def PySem.W.Fast.tw4621944213396517974 : Nat := 0
def PySem.W.Fast.tw10801070587717295032 : Nat := 0
def PySem.W.Fast.tw12018593047429441883 : Nat := 0
def PySem.W.Fast.tw14194121767489824264 : Nat := 0
def PySem.W.Fast.tw197109745529145676 : Nat := 0
def PySem.W.Fast.tw10096309527202839763 : Nat := 0
def PySem.W.Fast.tw16180199545076607231 : Nat := 0
def PySem.W.Fast.tw14751076466223833024 : Nat := 0
def PySem.W.Fast.tw11746698051190424430 : Nat := 0
def PySem.W.Fast.tw4035702358625342760 : Nat := 0
def PySem.W.Fast.tw1200131099147921911 : Nat := 0
def PySem.W.Fast.tw10642825728235023792 : Nat := 0
def PySem.W.Fast.tw11393902914499219976 : Nat := 0
def PySem.W.Fast.tw18272823858188234768 : Nat := 0
def PySem.W.Fast.tw3825717724763962555 : Nat := 0
def PySem.W.Fast.tw9879801923154811730 : Nat := 0
def PySem.W.Fast.tw7701276413143606137 : Nat := 0
def PySem.W.Fast.tw8571838271442644112 : Nat := 0
def PySem.W.Fast.tw5230217267882455446 : Nat := 0
def PySem.W.Fast.tw10007855791248358487 : Nat := 0
def PySem.W.Fast.tw9218926315899950054 : Nat := 0
open PySem PySem.W PyProof.Rows
set_option maxRecDepth 100000 in
set_option maxHeartbeats 0 in
theorem PySem.Challenge.cw_fundlinks_s01_answers_holds : PySem.Challenge.rw_fundlinks_s01_answers.Holds := by
  w_on; k_headS; (case hw => exact ⟨[.list [.int 14]], by decide +kernel, by decide +kernel⟩)
  k_fillS
  refine L2.walk_specK (r := PySem.Challenge.rw_fundlinks_s01_answers) (k := 8) (CX := L2.CX0) (ps := ["calls"]) (sp := FB.spAN) (by decide +kernel) rfl rfl ⟨rfl, by decide, by decide⟩ (fun w h Y => PySem.W.kIn_of Y) ?F ?S (fun _ _ _ _ z => z)
  case F =>
    intro w mg fa h Y KX G hmg
    refine' FB.all_mk KX G hmg ?aC_End ?pg_End ?hd_End ?po_End ?sa_End ?mk_End ?kc_End ?na_End_time ?na_End_before ?na_End_behind ?na_End_factors ?aC_Fund ?pg_Fund ?hd_Fund ?po_Fund ?sa_Fund ?mk_Fund ?kc_Fund ?na_Fund_weights ?na_Fund_ends ?aC_Reader ?pg_Reader ?hd_Reader ?po_Reader ?sa_Reader ?mk_Reader ?kc_Reader ?na_Reader_numbers ?na_Reader_place ?z_sum ?z_all ?z_any ?z_min ?z_max ?z_abs ?z_len ?z_list ?z_zip ?z_range ?k0_MILLION ?k0_NOTHING_REFUSED ?k0_OUT_OF_RANGE ?k0_WRONG_ROW ?k0_NO_SUCH_END ?k0_NOT_AS_TOLD ?k0_NOTHING_LEFT ?k0_TOO_MANY ?k0_MOST_PARTS ?k0_MOST_ENDS ?k0_MOST_AT_START ?k0_MOST_VALUE ?k0_MOST_FACTOR ?k0_LATEST_TIME ?k0_GREATEST_END_NAMED ?k0_SCALE ?k0_BEGIN ?k0_WEIGHTS ?k0_PERIOD ?k0_VALUE ?k0_LINKED ?k0_SCALED ?k0_PART ?k0_BENCH ?k0_BEATS ?k0_MADE ?k0_IRR ?k0_SIGN ?k0_FALL ?k0_DIETZ ?k0_COUNTS ?k0_GREATEST_RATE ?k0_NOT_TO_BE_TOLD ?k0_SAME ?k0_GREATER ?k0_LESS ?a_VB ?l_VB ?c_VB ?k_VB ?a_EI ?i_EI ?l_EI ?c_EI ?k_EI ?a_SA ?i_SA ?l_SA ?c_SA ?k_SA ?a_FI ?i_FI ?l_FI ?c_FI ?k_FI ?a_PC ?l_PC ?c_PC ?k_PC ?a_AllW ?l_AllW ?c_AllW ?k_AllW ?a_SR ?l_SR ?c_SR ?k_SR ?a_WR ?l_WR ?c_WR ?k_WR ?a_PR ?l_PR ?c_PR ?k_PR ?a_GN ?l_GN ?c_GN ?k_GN ?a_PF ?l_PF ?c_PF ?k_PF ?a_ER ?l_ER ?c_ER ?k_ER ?a_SP ?l_SP ?c_SP ?k_SP ?a_PtR ?l_PtR ?c_PtR ?k_PtR ?a_PS ?l_PS ?c_PS ?k_PS ?a_BE ?l_BE ?c_BE ?k_BE ?a_CW ?l_CW ?c_CW ?k_CW ?a_AP ?l_AP ?c_AP ?k_AP ?a_Gcd ?l_Gcd ?c_Gcd ?k_Gcd ?a_Least ?l_Least ?c_Least ?k_Least ?a_LF ?l_LF ?c_LF ?k_LF ?a_BR ?l_BR ?c_BR ?k_BR ?a_WF ?l_WF ?c_WF ?k_WF ?a_LB ?l_LB ?c_LB ?k_LB ?a_TV ?l_TV ?c_TV ?k_TV ?a_TL ?l_TL ?c_TL ?k_TL ?a_TS ?l_TS ?c_TS ?k_TS ?a_TP ?l_TP ?c_TP ?k_TP ?a_TB ?l_TB ?c_TB ?k_TB ?a_AF ?l_AF ?c_AF ?k_AF ?a_Pow ?l_Pow ?c_Pow ?k_Pow ?a_LO ?l_LO ?c_LO ?k_LO ?a_MW ?l_MW ?c_MW ?k_MW ?a_Tm ?l_Tm ?c_Tm ?k_Tm ?a_AU ?l_AU ?c_AU ?k_AU ?a_AVL ?l_AVL ?c_AVL ?k_AVL ?a_NP ?l_NP ?c_NP ?k_NP ?a_RR ?l_RR ?c_RR ?k_RR ?a_MWR ?l_MWR ?c_MWR ?k_MWR ?a_MR ?l_MR ?c_MR ?k_MR ?a_AR ?l_AR ?c_AR ?k_AR ?a_WG ?l_WG ?c_WG ?k_WG ?a_BG ?l_BG ?c_BG ?k_BG ?a_CG ?l_CG ?c_CG ?k_CG ?a_MD ?l_MD ?c_MD ?k_MD ?a_GF ?l_GF ?c_GF ?k_GF ?a_Cmp ?l_Cmp ?c_Cmp ?k_Cmp ?a_TBt ?l_TBt ?c_TBt ?k_TBt ?a_TM ?l_TM ?c_TM ?k_TM ?a_TI ?l_TI ?c_TI ?k_TI ?a_TSg ?l_TSg ?c_TSg ?k_TSg ?a_TF ?l_TF ?c_TF ?k_TF ?a_TD ?l_TD ?c_TD ?k_TD ?a_TC ?l_TC ?c_TC ?k_TC ?a_RI ?i_RI ?l_RI ?c_RI ?k_RI ?a_HM ?i_HM ?l_HM ?c_HM ?k_HM ?a_TN ?i_TN ?l_TN ?c_TN ?k_TN ?a_TNS ?i_TNS ?l_TNS ?c_TNS ?k_TNS ?a_TR ?i_TR ?l_TR ?c_TR ?k_TR ?a_AC ?l_AC ?c_AC ?k_AC ?a_AS ?l_AS ?c_AS ?k_AS ?a_AMd ?l_AMd ?c_AMd ?k_AMd ?a_AAl ?l_AAl ?c_AAl ?k_AAl ?a_AL ?l_AL ?c_AL ?k_AL ?a_AN ?l_AN ?c_AN ?k_AN
    (case aC_End => k_is); (case pg_End => k_is); (case hd_End => k_is); (case po_End => k_is); (case sa_End => k_is); (case mk_End => k_is)
    (case kc_End => k_is); (case na_End_time => k_is); (case na_End_before => k_is); (case na_End_behind => k_is); (case na_End_factors => k_is); (case aC_Fund => k_is)
    (case pg_Fund => k_is); (case hd_Fund => k_is); (case po_Fund => k_is); (case sa_Fund => k_is); (case mk_Fund => k_is); (case kc_Fund => k_is)
    (case na_Fund_weights => k_is); (case na_Fund_ends => k_is); (case aC_Reader => k_is); (case pg_Reader => k_is); (case hd_Reader => k_is); (case po_Reader => k_is)
    (case sa_Reader => k_is); (case mk_Reader => k_is); (case kc_Reader => k_is); (case na_Reader_numbers => k_is); (case na_Reader_place => k_is); (case z_sum => k_is)
    (case z_all => k_is); (case z_any => k_is); (case z_min => k_is); (case z_max => k_is); (case z_abs => k_is); (case z_len => k_is)
    (case z_list => k_is); (case z_zip => k_is); (case z_range => k_is); (case k0_MILLION => k_is); (case k0_NOTHING_REFUSED => k_is); (case k0_OUT_OF_RANGE => k_is)
    (case k0_WRONG_ROW => k_is); (case k0_NO_SUCH_END => k_is); (case k0_NOT_AS_TOLD => k_is); (case k0_NOTHING_LEFT => k_is); (case k0_TOO_MANY => k_is); (case k0_MOST_PARTS => k_is)
    (case k0_MOST_ENDS => k_is); (case k0_MOST_AT_START => k_is); (case k0_MOST_VALUE => k_is); (case k0_MOST_FACTOR => k_is); (case k0_LATEST_TIME => k_is); (case k0_GREATEST_END_NAMED => k_is)
    (case k0_SCALE => k_is); (case k0_BEGIN => k_is); (case k0_WEIGHTS => k_is); (case k0_PERIOD => k_is); (case k0_VALUE => k_is); (case k0_LINKED => k_is)
    (case k0_SCALED => k_is); (case k0_PART => k_is); (case k0_BENCH => k_is); (case k0_BEATS => k_is); (case k0_MADE => k_is); (case k0_IRR => k_is)
    (case k0_SIGN => k_is); (case k0_FALL => k_is); (case k0_DIETZ => k_is); (case k0_COUNTS => k_is); (case k0_GREATEST_RATE => k_is); (case k0_NOT_TO_BE_TOLD => k_is)
    (case k0_SAME => k_is); (case k0_GREATER => k_is); (case k0_LESS => k_is); (case a_VB => k_is); (case l_VB => k_is); (case c_VB => k_is)
    (case k_VB => k_is); (case a_EI => k_is); (case i_EI => k_is); (case l_EI => k_is); (case c_EI => k_is); (case k_EI => k_is)
    (case a_SA => k_is); (case i_SA => k_is); (case l_SA => k_is); (case c_SA => k_is); (case k_SA => k_is); (case a_FI => k_is)
    (case i_FI => k_is); (case l_FI => k_is); (case c_FI => k_is); (case k_FI => k_is); (case a_PC => k_is); (case l_PC => k_is)
    (case c_PC => k_is); (case k_PC => k_is); (case a_AllW => k_is); (case l_AllW => k_is); (case c_AllW => k_is); (case k_AllW => k_is)
    (case a_SR => k_is); (case l_SR => k_is); (case c_SR => k_is); (case k_SR => k_is); (case a_WR => k_is); (case l_WR => k_is)
    (case c_WR => k_is); (case k_WR => k_is); (case a_PR => k_is); (case l_PR => k_is); (case c_PR => k_is); (case k_PR => k_is)
    (case a_GN => k_is); (case l_GN => k_is); (case c_GN => k_is); (case k_GN => k_is); (case a_PF => k_is); (case l_PF => k_is)
    (case c_PF => k_is); (case k_PF => k_is); (case a_ER => k_is); (case l_ER => k_is); (case c_ER => k_is); (case k_ER => k_is)
    (case a_SP => k_is); (case l_SP => k_is); (case c_SP => k_is); (case k_SP => k_is); (case a_PtR => k_is); (case l_PtR => k_is)
    (case c_PtR => k_is); (case k_PtR => k_is); (case a_PS => k_is); (case l_PS => k_is); (case c_PS => k_is); (case k_PS => k_is)
    (case a_BE => k_is); (case l_BE => k_is); (case c_BE => k_is); (case k_BE => k_is); (case a_CW => k_is); (case l_CW => k_is)
    (case c_CW => k_is); (case k_CW => k_is); (case a_AP => k_is); (case l_AP => k_is); (case c_AP => k_is); (case k_AP => k_is)
    (case a_Gcd => k_is); (case l_Gcd => k_is); (case c_Gcd => k_is); (case k_Gcd => k_is); (case a_Least => k_is); (case l_Least => k_is)
    (case c_Least => k_is); (case k_Least => k_is); (case a_LF => k_is); (case l_LF => k_is); (case c_LF => k_is); (case k_LF => k_is)
    (case a_BR => k_is); (case l_BR => k_is); (case c_BR => k_is); (case k_BR => k_is); (case a_WF => k_is); (case l_WF => k_is)
    (case c_WF => k_is); (case k_WF => k_is); (case a_LB => k_is); (case l_LB => k_is); (case c_LB => k_is); (case k_LB => k_is)
    (case a_TV => k_is); (case l_TV => k_is); (case c_TV => k_is); (case k_TV => k_is); (case a_TL => k_is); (case l_TL => k_is)
    (case c_TL => k_is); (case k_TL => k_is); (case a_TS => k_is); (case l_TS => k_is); (case c_TS => k_is); (case k_TS => k_is)
    (case a_TP => k_is); (case l_TP => k_is); (case c_TP => k_is); (case k_TP => k_is); (case a_TB => k_is); (case l_TB => k_is)
    (case c_TB => k_is); (case k_TB => k_is); (case a_AF => k_is); (case l_AF => k_is); (case c_AF => k_is); (case k_AF => k_is)
    (case a_Pow => k_is); (case l_Pow => k_is); (case c_Pow => k_is); (case k_Pow => k_is); (case a_LO => k_is); (case l_LO => k_is)
    (case c_LO => k_is); (case k_LO => k_is); (case a_MW => k_is); (case l_MW => k_is); (case c_MW => k_is); (case k_MW => k_is)
    (case a_Tm => k_is); (case l_Tm => k_is); (case c_Tm => k_is); (case k_Tm => k_is); (case a_AU => k_is); (case l_AU => k_is)
    (case c_AU => k_is); (case k_AU => k_is); (case a_AVL => k_is); (case l_AVL => k_is); (case c_AVL => k_is); (case k_AVL => k_is)
    (case a_NP => k_is); (case l_NP => k_is); (case c_NP => k_is); (case k_NP => k_is); (case a_RR => k_is); (case l_RR => k_is)
    (case c_RR => k_is); (case k_RR => k_is); (case a_MWR => k_is); (case l_MWR => k_is); (case c_MWR => k_is); (case k_MWR => k_is)
    (case a_MR => k_is); (case l_MR => k_is); (case c_MR => k_is); (case k_MR => k_is); (case a_AR => k_is); (case l_AR => k_is)
    (case c_AR => k_is); (case k_AR => k_is); (case a_WG => k_is); (case l_WG => k_is); (case c_WG => k_is); (case k_WG => k_is)
    (case a_BG => k_is); (case l_BG => k_is); (case c_BG => k_is); (case k_BG => k_is); (case a_CG => k_is); (case l_CG => k_is)
    (case c_CG => k_is); (case k_CG => k_is); (case a_MD => k_is); (case l_MD => k_is); (case c_MD => k_is); (case k_MD => k_is)
    (case a_GF => k_is); (case l_GF => k_is); (case c_GF => k_is); (case k_GF => k_is); (case a_Cmp => k_is); (case l_Cmp => k_is)
    (case c_Cmp => k_is); (case k_Cmp => k_is); (case a_TBt => k_is); (case l_TBt => k_is); (case c_TBt => k_is); (case k_TBt => k_is)
    (case a_TM => k_is); (case l_TM => k_is); (case c_TM => k_is); (case k_TM => k_is); (case a_TI => k_is); (case l_TI => k_is)
    (case c_TI => k_is); (case k_TI => k_is); (case a_TSg => k_is); (case l_TSg => k_is); (case c_TSg => k_is); (case k_TSg => k_is)
    (case a_TF => k_is); (case l_TF => k_is); (case c_TF => k_is); (case k_TF => k_is); (case a_TD => k_is); (case l_TD => k_is)
    (case c_TD => k_is); (case k_TD => k_is); (case a_TC => k_is); (case l_TC => k_is); (case c_TC => k_is); (case k_TC => k_is)
    (case a_RI => k_is); (case i_RI => k_is); (case l_RI => k_is); (case c_RI => k_is); (case k_RI => k_is); (case a_HM => k_is)
    (case i_HM => k_is); (case l_HM => k_is); (case c_HM => k_is); (case k_HM => k_is); (case a_TN => k_is); (case i_TN => k_is)
    (case l_TN => k_is); (case c_TN => k_is); (case k_TN => k_is); (case a_TNS => k_is); (case i_TNS => k_is); (case l_TNS => k_is)
    (case c_TNS => k_is); (case k_TNS => k_is); (case a_TR => k_is); (case i_TR => k_is); (case l_TR => k_is); (case c_TR => k_is)
    (case k_TR => k_is); (case a_AC => k_is); (case l_AC => k_is); (case c_AC => k_is); (case k_AC => k_is); (case a_AS => k_is)
    (case l_AS => k_is); (case c_AS => k_is); (case k_AS => k_is); (case a_AMd => k_is); (case l_AMd => k_is); (case c_AMd => k_is)
    (case k_AMd => k_is); (case a_AAl => k_is); (case l_AAl => k_is); (case c_AAl => k_is); (case k_AAl => k_is); (case a_AL => k_is)
    (case l_AL => k_is); (case c_AL => k_is); (case k_AL => k_is); (case a_AN => k_is); (case l_AN => k_is); (case c_AN => k_is)
    (case k_AN => k_is)
  case S =>
    intro K H xs a hO hwi hask hx
    cases hx with
    | cons h1 h2 =>
      cases h2
      cases h1 with
      | lst hs ha =>
        have e := L2.ints_dw a.1 _ ha
        subst e
        have q : ((Codec.inLen 0 16000 a.1 && a.1.all (Codec.inInt (-9223372036854775808) 9223372036854775807)) && true) = true := hwi
        rw [Bool.and_eq_true, Bool.and_eq_true] at q
        exact FB.request (l := a.1) hO (Codec.inNat_iff.mp q.1.1).2 hask hs fun H' p hp => .lst (L2.SqL.of hp) (L2.dw_ints _)
#print axioms PySem.Challenge.cw_fundlinks_s01_answers_holds
