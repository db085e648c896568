import PyProof.Rows.All
import Wide.All
import OpenK.AllK
import Wide.FinOn
import Lean
import PyProof.EqAt
import PyProof.EqKinds
import PyProof.TupleCall
import PyProof.NsDelKeeps
import PyProof.NeKinds
import PyProof.ListRange
import PyProof.SumWalkG
import PyProof.WalkInts
import PyProof.SeqI3
import KE.KUnpack
import PySem.Challenge.RW_turnnest_k44_neighbours_and_refusals
set_option Elab.async false
set_option linter.all false
set_option maxRecDepth 100000
namespace L2
open PySem PySem.Spec PyProof.Rows
abbrev Key := Sum Int Str
def keyIs : Key → Value → Bool
  | .inl k, v => Value.isInt k v
  | .inr x, v => Value.isStrOf x v
def keyH (w : World) : Key → Int
  | .inl k => hashInt k
  | .inr x => hashStr w x
theorem keyIs_shape : ∀ {k : Key} {v : Value}, keyIs k v = true → (∃ i t, k = Sum.inl i ∧ v = Value.int i t) ∨ (∃ x t, k = Sum.inr x ∧ v = Value.str x t)
  | .inl i, v, h => by
    obtain ⟨t, e⟩ := Value.isInt_shape (k := i) (v := v) h
    exact .inl ⟨i, t, rfl, e⟩
  | .inr x, v, h => by
    obtain ⟨t, e⟩ := Value.isStrOf_shape (x := x) (v := v) h
    exact .inr ⟨x, t, rfl, e⟩
theorem key_ll (a b : Int) : decide ((Sum.inl a : Key) = Sum.inl b) = (a == b) := by
  by_cases e : a = b
  · subst e; simp
  · have h : ¬ (Sum.inl a : Key) = Sum.inl b := fun q => e (Sum.inl.inj q)
    rw [decide_eq_false h]
    exact (beq_eq_false_iff_ne.mpr e).symm
theorem key_rr (a b : Str) : decide ((Sum.inr a : Key) = Sum.inr b) = decide (a = b) := by
  by_cases e : a = b
  · subst e; simp
  · have h : ¬ (Sum.inr a : Key) = Sum.inr b := fun q => e (Sum.inr.inj q)
    rw [decide_eq_false h, decide_eq_false e]
theorem key_lr (a : Int) (b : Str) : decide ((Sum.inl a : Key) = Sum.inr b) = false := decide_eq_false (fun q => nomatch q)
theorem key_rl (a : Str) (b : Int) : decide ((Sum.inr a : Key) = Sum.inl b) = false := decide_eq_false (fun q => nomatch q)
def mixKind (prog : Program) (w : World) : PySem.KeyKind prog w Key where
  is := keyIs
  hash := keyH w
  inj := fun v a b ha hb => by
    rcases keyIs_shape ha with ⟨i, t, rfl, rfl⟩ | ⟨x, t, rfl, rfl⟩
    · rcases keyIs_shape hb with ⟨j, u, rfl, e⟩ | ⟨y, u, rfl, e⟩
      · injection e with e1 _; rw [e1]
      · exact nomatch e
    · rcases keyIs_shape hb with ⟨j, u, rfl, e⟩ | ⟨y, u, rfl, e⟩
      · exact nomatch e
      · injection e with e1 _; rw [e1]
  byValue := fun k v h => by
    rcases keyIs_shape h with ⟨i, t, rfl, rfl⟩ | ⟨x, t, rfl, rfl⟩ <;> rfl
  pyHash := fun hv h => by
    rcases keyIs_shape hv with ⟨i, t, rfl, rfl⟩ | ⟨x, t, rfl, rfl⟩
    · exact wpAny_pyHash_int h
    · exact wpAny_pyHash_str h
  eqBool := fun hu hv h => by
    rcases keyIs_shape hu with ⟨i, t, rfl, rfl⟩ | ⟨x, t, rfl, rfl⟩
    · rcases keyIs_shape hv with ⟨j, u, rfl, rfl⟩ | ⟨y, u, rfl, rfl⟩
      · rw [key_ll] at h; exact wpAny_eqBool_int h
      · rw [key_lr] at h; exact SeqAt.EqAt.int_str i t y u _ _ _ _ h
    · rcases keyIs_shape hv with ⟨j, u, rfl, rfl⟩ | ⟨y, u, rfl, rfl⟩
      · rw [key_rl] at h; exact SeqAt.EqAt.str_int x t j u _ _ _ _ h
      · rw [key_rr] at h; exact wpAny_eqBool_str h
  «strs» := fun k x t v h => by
    rcases keyIs_shape h with ⟨i, u, rfl, e⟩ | ⟨y, u, rfl, e⟩
    · exact nomatch e
    · injection e with e1 _
      subst e1
      cases v <;> rfl
end L2
namespace L2
open PySem PySem.Spec PyProof.Rows
inductive V where
  | non | bl (b : Bool) | int (i : Int) | str (x : Str) | byt (b : Array UInt8) | flt (b : UInt64) | ref (a : Addr) | ty (n : String)
  deriving DecidableEq
def RelV : V → Value → Prop
  | .non, u => u = Value.none
  | .bl b, u => u = Value.bool b
  | .int i, u => ∃ t, u = Value.int i t
  | .str x, u => ∃ t, u = Value.str x t
  | .byt b, u => ∃ t, u = Value.bytes b t
  | .flt b, u => ∃ t, u = Value.float b t
  | .ref a, u => u = Value.ref a
  | .ty n, u => u = Value.type n
abbrev Vals : List V → List Value → Prop := Paired RelV
theorem Vals.length {xs : List V} {us : List Value} (r : Vals xs us) : xs.length = us.length := Paired.length r
theorem Vals.get : ∀ {xs : List V} {us : List Value} {i : Nat} {x : V}, Vals xs us → xs[i]? = some x → ∃ u, us[i]? = some u ∧ RelV x u
  | _, _, _, _, .nil, e => by simp at e
  | _, _, 0, _, .cons r _, e => by simp at e; subst e; exact ⟨_, rfl, r⟩
  | _, _, i + 1, x, .cons _ t, e => by
    obtain ⟨u, h1, h2⟩ := Vals.get (i := i) (x := x) t (by simpa using e)
    exact ⟨u, by simpa using h1, h2⟩
theorem Vals.set {x : V} {u : Value} (r : RelV x u) : ∀ {xs : List V} {us : List Value} (i : Nat), Vals xs us → Vals (xs.set i x) (us.set i u)
  | _, _, _, .nil => .nil
  | _, _, 0, .cons _ t => .cons r t
  | _, _, i + 1, .cons q t => .cons q (Vals.set r i t)
theorem Vals.append : ∀ {xs ys : List V} {us ws : List Value}, Vals xs us → Vals ys ws → Vals (xs ++ ys) (us ++ ws)
  | _, _, _, _, .nil, s => s
  | _, _, _, _, .cons r t, s => .cons r (Vals.append t s)
theorem Vals.take : ∀ {xs : List V} {us : List Value} (n : Nat), Vals xs us → Vals (xs.take n) (us.take n)
  | _, _, 0, _ => .nil
  | _, _, _ + 1, .nil => .nil
  | _, _, n + 1, .cons r t => .cons r (Vals.take n t)
theorem Vals.drop : ∀ {xs : List V} {us : List Value} (n : Nat), Vals xs us → Vals (xs.drop n) (us.drop n)
  | _, _, 0, r => r
  | _, _, _ + 1, .nil => .nil
  | _, _, n + 1, .cons _ t => Vals.drop n t
def RelO : Option V → Option Value → Prop
  | some v, some u => RelV v u
  | none, none => True
  | _, _ => False
def KV {κ : Type} : List (κ × V) → List (κ × Value) → Prop := Paired fun (p : κ × V) (q : κ × Value) => p.1 = q.1 ∧ RelV p.2 q.2
def kV : Key → V
  | .inl i => .int i
  | .inr x => .str x
def IsTupN (h : Heap) (a : Addr) (items : Array Value) : Prop := ∃ o, h.get? a = some o ∧ o.cls = .type "tuple" ∧ (∃ n, o.data = .seq items n) ∧ o.dict = none
theorem IsTupN.tup {h : Heap} {a : Addr} {items : Array Value} (x : IsTupN h a items) : IsTup h a items := let ⟨o, e, c, d, _⟩ := x; ⟨o, e, c, d⟩
theorem IsTupN.new (h : Heap) (items : Array Value) : IsTupN (h.push { cls := .type "tuple", data := .seq items }) h.objs.size items := ⟨_, Heap.get?_push_size _ rfl, rfl, ⟨_, rfl⟩, rfl⟩
inductive HO where
  /-- a list -/
  | lst (xs : List V)
  /-- a tuple (never changes) -/
  | tup (xs : List V)
  /-- a dict whose keys are ints and texts; one whose keys are tuples of ints and texts (the empty one is both) -/
  | dK (kvs : List (Key × V)) | dT (kvs : List (List Key × V))
  /-- a set of ints: its members, its size -/
  | set (S : Int → Bool) (n : Nat)
  /-- an instance of the class at C, its dict at dx, its attributes -/
  | ins (C dx : Addr) (fs : List (Str × V))
  /-- the dict of the instance at x -/
  | own (x : Addr)
  /-- the dict of an exception -/
  | xd (fs : List (Str × V))
  /-- a bound method, f of x -/
  | met (f x : Addr)
  /-- a range object lo, lo + 1, .. below hi -/
  | rng (lo hi : Int)
  /-- a thing that is known to the object (the script; a dict while a loop walks it): read, never written while it is so -/
  | frz (o : Obj) (u : HO)
  /-- a code object's table -/
  | tbl (ps : Array Value)
  /-- any other thing, by what is true of its one object (a def of one's own: SetO a S n := HO.ext fun h => ..) -/
  | ext (φ : Heap → Prop)
abbrev Hp := Addr → Option HO
def upd (H : Hp) (a : Addr) (o : HO) : Hp := fun b => if b = a then some o else H b
theorem upd_same {H : Hp} {a : Addr} {o : HO} : upd H a o a = some o := by unfold upd; rw [if_pos rfl]
theorem upd_ne {H : Hp} {a b : Addr} {o : HO} (h : b ≠ a) : upd H a o b = H b := by unfold upd; rw [if_neg h]
theorem upd_upd {H : Hp} {a : Addr} {o u : HO} : upd (upd H a o) a u = upd H a u := by
  funext b; unfold upd; split <;> rfl
theorem ne_of {H : Hp} {a b : Addr} {o u : HO} (h : H a = some o) (h' : H b = some u) (d : o ≠ u) : a ≠ b := by
  intro e; subst e; rw [h] at h'; exact d (Option.some.inj h')
theorem ne_of_none {H : Hp} {a b : Addr} {o : HO} (h : H a = some o) (h' : H b = none) : a ≠ b := by
  intro e; subst e; rw [h] at h'; cases h'
section
variable (P : Program) (w : World)
def ObjOk (H : Hp) (h : Heap) (a : Addr) : HO → Prop
  | .lst xs => xs.length ≤ sizeLine ∧ ∃ (its : List Value) (n : Nat), Vals xs its ∧ h.get? a = some { cls := .type "list", data := .seq its.toArray n }
  | .tup xs => xs.length ≤ sizeLine ∧ ∃ its : List Value, Vals xs its ∧ IsTupN h a its.toArray
  | .dK kvs => kvs.length ≤ sizeLine ∧ (a == sysModules) = false ∧ ∃ vs, KV kvs vs ∧ h.DictOf (mixKind P w) a vs
  | .dT kvs => kvs.length ≤ sizeLine ∧ (a == sysModules) = false ∧ ∃ xs : List (List Key × Addr × Value),
      Paired (fun (p : List Key × V) (q : List Key × Addr × Value) => p.1 = q.1 ∧ H q.2.1 = some (.tup (p.1.map kV)) ∧ RelV p.2 q.2.2) kvs xs ∧
      ∃ o es ep, h.get? a = some o ∧ o.ExactDict ∧ o.data = .dict es ep ∧ es.toList = xs.map (entryOfKey (tupleKind (mixKind P w))) ∧ (xs.map (·.1)).Nodup
  | .set S n => h.SetOf (intKind P w) a S n
  | .ins C dx fs => H dx = some (.own a) ∧ fs.length ≤ 1000 ∧ dx ≠ a ∧ h.get? a = some (PySem.W.instObj C dx) ∧
      ∃ mA, h.Ns1 dx mA ∧ (∀ f, RelO (fs.lookup f) (mA f)) ∧ PySem.Within mA (fs.map (·.1))
  | .own _ => ∃ o, h.get? a = some o
  | .xd fs => ∃ mA, h.Ns1 a mA ∧ ∀ f, RelO (fs.lookup f) (mA f)
  | .rng lo hi => ∃ t u v, h.get? a = some { cls := .type "range", data := .fields #[.int lo t, .int hi u, .int 1 v] }
  | .frz o u => h.get? a = some o ∧ ObjOk H h a u
  | .tbl ps => h.get? a = some { cls := .none, data := .fields ps }
  | .met f x => h.get? a = some (PySem.W.methodObj (.ref f) (.ref x))
  | .ext φ => φ h ∧ (∃ o, h.get? a = some o) ∧ ∀ h1 h2 : Heap, φ h1 → (∀ o, h1.get? a = some o → h2.get? a = some o) → φ h2
def HOk (H : Hp) (h : Heap) : Prop := ∀ a o, H a = some o → ObjOk P w H h a o
end
section
variable {P : Program} {w : World} {H H' : Hp} {h h' : Heap} {a : Addr} {o : HO}
theorem ObjOk.lt (x : ObjOk P w H h a o) : a < h.objs.size := by
  cases o with
  | lst xs => obtain ⟨_, _, _, _, e⟩ := x; exact Heap.lt_size e
  | tup xs => obtain ⟨_, _, _, p⟩ := x; exact p.tup.lt
  | dK kvs => obtain ⟨_, _, _, _, o, _, _, e, _⟩ := x; exact Heap.lt_size e
  | dT kvs => obtain ⟨_, _, _, _, o, _, _, e, _⟩ := x; exact Heap.lt_size e
  | set S n => obtain ⟨o, _, _, _, e, _⟩ := x; exact Heap.lt_size e
  | ins C dx fs => obtain ⟨_, _, _, e, _⟩ := x; exact Heap.lt_size e
  | own y => obtain ⟨_, e⟩ := x; exact Heap.lt_size e
  | xd fs => obtain ⟨_, ⟨_, _, _, e, _⟩, _⟩ := x; exact Heap.lt_size e
  | rng lo hi => obtain ⟨_, _, _, e⟩ := x; exact Heap.lt_size e
  | frz ob u => obtain ⟨e, _⟩ := x; exact Heap.lt_size e
  | tbl ps => exact Heap.lt_size (show h.get? a = some _ from x)
  | met f y => exact Heap.lt_size (show h.get? a = some _ from x)
  | ext φ => obtain ⟨_, ⟨_, e⟩, _⟩ := x; exact Heap.lt_size e
theorem Paired.mapP {α β : Type} {F G : α → β → Prop} : ∀ {l₁ : List α} {l₂ : List β}, Paired F l₁ l₂ → (∀ a b, F a b → G a b) → Paired G l₁ l₂
  | _, _, .nil, _ => .nil
  | _, _, .cons r t, f => .cons (f _ _ r) (Paired.mapP t f)
theorem ObjOk.stay (x : ObjOk P w H h a o) (k : ∀ b u, (b = a ∨ H b = some (.own a)) → h.get? b = some u → h'.get? b = some u)
    (ho : ∀ b, H b = some (.own a) → H' b = some (.own a)) (ht : ∀ b xs, H b = some (.tup xs) → H' b = some (.tup xs)) : ObjOk P w H' h' a o := by
  induction o with
  | lst xs => obtain ⟨z, its, n, r, e⟩ := x; exact ⟨z, its, n, r, k _ _ (.inl rfl) e⟩
  | tup xs => obtain ⟨z, its, r, ob, e, c⟩ := x; exact ⟨z, its, r, ob, k _ _ (.inl rfl) e, c⟩
  | dK kvs => obtain ⟨z, y, vs, r, ob, es, ep, e, c⟩ := x; exact ⟨z, y, vs, r, ob, es, ep, k _ _ (.inl rfl) e, c⟩
  | dT kvs =>
    obtain ⟨z, y, xs, r, ob, es, ep, e, c⟩ := x
    exact ⟨z, y, xs, Paired.mapP r fun p q z => ⟨z.1, ht _ _ z.2.1, z.2.2⟩, ob, es, ep, k _ _ (.inl rfl) e, c⟩
  | set S n => obtain ⟨ob, es, ep, t, e, c⟩ := x; exact ⟨ob, es, ep, t, k _ _ (.inl rfl) e, c⟩
  | ins C dx fs =>
    obtain ⟨d, z, ne, e, mA, ⟨od, es, ep, e2, c⟩, r⟩ := x
    exact ⟨ho _ d, z, ne, k _ _ (.inl rfl) e, mA, ⟨od, es, ep, k _ _ (.inr d) e2, c⟩, r⟩
  | own y => obtain ⟨ob, e⟩ := x; exact ⟨ob, k _ _ (.inl rfl) e⟩
  | xd fs => obtain ⟨mA, ⟨od, es, ep, e, c⟩, r⟩ := x; exact ⟨mA, ⟨od, es, ep, k _ _ (.inl rfl) e, c⟩, r⟩
  | rng lo hi => obtain ⟨t, u, v, e⟩ := x; exact ⟨t, u, v, k _ _ (.inl rfl) e⟩
  | frz ob u ih => obtain ⟨e, q⟩ := x; exact ⟨k _ _ (.inl rfl) e, ih q⟩
  | tbl ps =>
    have e : h.get? a = some { cls := .none, data := .fields ps } := x
    show h'.get? a = some { cls := .none, data := .fields ps }
    exact k a _ (.inl rfl) e
  | met f y =>
    have e : h.get? a = some (PySem.W.methodObj (.ref f) (.ref y)) := x
    show h'.get? a = some (PySem.W.methodObj (.ref f) (.ref y))
    exact k a _ (.inl rfl) e
  | ext φ => obtain ⟨p, ⟨o, e⟩, st⟩ := x; exact ⟨st _ _ p fun o q => k _ _ (.inl rfl) q, ⟨o, k _ _ (.inl rfl) e⟩, st⟩
theorem HOk.lt (x : HOk P w H h) (e : H a = some o) : a < h.objs.size := (x a o e).lt
theorem HOk.fresh (x : HOk P w H h) (e : h.objs.size ≤ a) : H a = none := by
  cases q : H a with
  | none => rfl
  | some u => exact absurd (Nat.lt_of_lt_of_le (x.lt q) e) (Nat.lt_irrefl _)
theorem HOk.kept (x : HOk P w H h) (k : ∀ b u, h.get? b = some u → h'.get? b = some u) : HOk P w H h' := fun a o e =>
  (x a o e).stay (fun b u _ q => k b u q) (fun _ q => q) fun _ _ q => q
theorem HOk.laid (x : HOk P w H h) (k : ∀ b u, h.get? b = some u → h'.get? b = some u) (hp : h.objs.size ≤ a) (new : ObjOk P w (upd H a o) h' a o) : HOk P w (upd H a o) h' := fun b u e => by
  have hn := x.fresh hp
  by_cases hb : b = a
  · subst hb; rw [upd_same] at e; cases e; exact new
  · rw [upd_ne hb] at e
    exact (x b u e).stay (fun c v _ q => k c v q) (fun c q => by rw [upd_ne (ne_of_none q hn)]; exact q) fun c xs q => by rw [upd_ne (ne_of_none q hn)]; exact q
end
def Rd (H : Hp) (a : Addr) (u : HO) : Prop := H a = some u ∨ ∃ o, H a = some (.frz o u)
theorem Rd.ok {P : Program} {w : World} {H : Hp} {h : Heap} {a : Addr} {u : HO} (r : Rd H a u) (x : HOk P w H h) : ObjOk P w H h a u := by
  rcases r with r | ⟨o, r⟩
  · exact x a u r
  · obtain ⟨_, q⟩ := x a _ r
    exact q
def Mut : Option HO → Prop
  | some (.lst _) => True
  | some (.dK _) => True
  | some (.dT _) => True
  | some (.set _ _) => True
  | some (.ins _ _ _) => True
  | some (.ext _) => True
  | _ => False
section
variable {P : Program} {w : World} {H : Hp} {h h' : Heap} {x e : Addr} {o' : HO}
theorem HOk.write (ok : HOk P w H h) (mu : Mut (H x)) (he : e = x ∨ H e = some (.own x)) (k : ∀ b u, b ≠ e → h.get? b = some u → h'.get? b = some u) (heo : ∃ u, h'.get? e = some u)
    (new : ObjOk P w (upd H x o') h' x o') : HOk P w (upd H x o') h' := fun b u q => by
  have nown : ∀ c y, H c = some (.own y) → c ≠ x := fun c y r z => by subst z; rw [r] at mu; exact mu
  have ntup : ∀ c xs, H c = some (.tup xs) → c ≠ x := fun c xs r z => by subst z; rw [r] at mu; exact mu
  by_cases hb : b = x
  · subst hb; rw [upd_same] at q; cases q; exact new
  · rw [upd_ne hb] at q
    by_cases hbe : b = e
    · have q' : H b = some (.own x) := by
        rcases he with z | z
        · exact absurd (hbe.trans z) hb
        · rw [hbe]; exact z
      rw [q] at q'; cases q'
      obtain ⟨v, hv⟩ := heo
      exact ⟨v, by rw [hbe]; exact hv⟩
    · refine (ok b u q).stay (fun c v hc r => k c v ?_ r) (fun c r => by rw [upd_ne (nown c b r)]; exact r) fun c xs r => by rw [upd_ne (ntup c xs r)]; exact r
      rcases hc with rfl | hc
      · exact hbe
      · rintro rfl
        rcases he with z | z
        · exact nown c b hc z
        · rw [hc] at z; cases z; exact hb rfl
end
structure Un (fs ex : List Addr) (H H' : Hp) (h h' : Heap) : Prop where
  keep : ∀ b o, h.get? b = some o → H b = none → b ∉ fs → b ∉ ex → h'.get? b = some o
  slot : ∀ b o, h.get? b = some o → H b = none → b ∈ fs → b ∉ ex → ∃ sl, h'.get? b = some { o with slots := sl }
  free : ∀ b o, h.get? b = some o → H b = none → b ∉ ex → H' b = none
  there : ∀ b o, h.get? b = some o → b ∉ ex → ∃ o', h'.get? b = some o'
  tups : ∀ b xs, H b = some (.tup xs) → H' b = some (.tup xs)
  frzs : ∀ b o u, H b = some (.frz o u) → H' b = some (.frz o u)
  tbls : ∀ b ps, H b = some (.tbl ps) → ∃ more, H' b = some (.tbl (ps ++ more))
section
variable {fs fs' ex ex' : List Addr} {H H1 H2 : Hp} {h h1 h2 h' : Heap} {a x e : Addr} {o : HO}
theorem Un.any (u : Un fs ex H H1 h h1) {b : Addr} {ob : Obj} (q : h.get? b = some ob) (n : H b = none) (hx : b ∉ ex) : ∃ sl, h1.get? b = some { ob with slots := sl } := by
  by_cases hb : b ∈ fs
  · exact u.slot b ob q n hb hx
  · exact ⟨ob.slots, u.keep b ob q n hb hx⟩
theorem Un.kept (k : ∀ b u, h.get? b = some u → h'.get? b = some u) : Un fs ex H H h h' :=
  ⟨fun b ob q _ _ _ => k b ob q, fun b ob q _ _ _ => ⟨ob.slots, k b ob q⟩, fun _ _ _ n _ => n, fun b ob q _ => ⟨ob, k b ob q⟩, fun _ _ q => q, fun _ _ _ q => q, fun _ ps q => ⟨#[], by rw [q]; simp⟩⟩
theorem Un.refl : Un fs ex H H h h := Un.kept fun _ _ q => q
theorem Un.laid (k : ∀ b u, h.get? b = some u → h'.get? b = some u) (hp : h.objs.size ≤ a) (hn : H a = none) : Un fs ex H (upd H a o) h h' where
  keep := fun b u q _ _ _ => k b u q
  slot := fun b u q _ _ _ => ⟨u.slots, k b u q⟩
  free := fun b u q n _ => by rw [upd_ne (Nat.ne_of_lt (Nat.lt_of_lt_of_le (Heap.lt_size q) hp))]; exact n
  there := fun b u q _ => ⟨u, k b u q⟩
  tups := fun b xs q => by rw [upd_ne (ne_of_none q hn)]; exact q
  frzs := fun b u xs q => by rw [upd_ne (ne_of_none q hn)]; exact q
  tbls := fun b ps q => ⟨#[], by rw [upd_ne (ne_of_none q hn), q]; simp⟩
theorem Un.write (mu : Mut (H x)) (he : e = x ∨ H e = some (.own x)) (k : ∀ b u, b ≠ e → h.get? b = some u → h'.get? b = some u) (heo : ∃ u, h'.get? e = some u) : Un fs ex H (upd H x o) h h' := by
  have hx : ∀ b, H b = none → b ≠ x := fun b n z => by subst z; rw [n] at mu; exact mu
  have hb : ∀ b, H b = none → b ≠ e := fun b n z => by
    subst z
    rcases he with r | r
    · exact hx b n r
    · rw [n] at r; cases r
  have hm : ∀ b u, H b = some u → ¬ Mut (some u) → b ≠ x := fun b u q nm z => by subst z; rw [q] at mu; exact nm mu
  refine ⟨fun b u q n _ _ => k b u (hb b n) q, fun b u q n _ _ => ⟨u.slots, k b u (hb b n) q⟩, fun b u q n _ => by rw [upd_ne (hx b n)]; exact n, fun b u q _ => ?_,
    fun b xs q => by rw [upd_ne (hm b _ q fun z => z)]; exact q, fun b u xs q => by rw [upd_ne (hm b _ q fun z => z)]; exact q, fun b ps q => ⟨#[], by rw [upd_ne (hm b _ q fun z => z), q]; simp⟩⟩
  by_cases hbe : b = e
  · subst hbe; exact heo
  · exact ⟨u, k b u hbe q⟩
end
def trk (h : Heap) (H : Hp) : List Addr := (List.range h.objs.size).filter fun a => (H a).isSome
def hidT (h : Heap) (H : Hp) : Heap := PySem.W.hideAll h (trk h H)
theorem hidT_size (h : Heap) (H : Hp) : (hidT h H).objs.size = h.objs.size := PySem.W.hideAll_size _ _
theorem hidT_get {h : Heap} {H : Hp} {b : Addr} {o : Obj} (e : h.get? b = some o) (n : H b = none) : (hidT h H).get? b = some o :=
  PySem.W.hideAll_get _ e fun hm => by
    have q : (H b).isSome = true := (List.mem_filter.mp hm).2
    rw [n] at q; simp at q
theorem of_hidT {h : Heap} {H : Hp} {b : Addr} {o : Obj} (e : (hidT h H).get? b = some o) : h.get? b = some o ∧ H b = none := by
  have e' : h.get? b = some o := PySem.W.of_hideAll (trk h H) e
  refine ⟨e', ?_⟩
  cases q : H b with
  | none => rfl
  | some x =>
    have hm : b ∈ trk h H := List.mem_filter.mpr ⟨List.mem_range.mpr (Heap.lt_size e'), by simp [q]⟩
    have z : (hidT h H).get? b = none := PySem.W.hideAll_none (trk h H) hm
    rw [z] at e; cases e
def allNews (g h : Heap) (L : Addr) : List (Addr × Obj) := (List.range h.objs.size).filterMap fun a => if a = L ∨ (g.get? a).isSome = true then none else (h.get? a).map fun o => (a, o)
def rest (g h : Heap) (L d : Addr) : List (Addr × Obj) := (allNews g h L).filter fun p => decide (p.1 ≠ d)
end L2
namespace L2
open PySem PySem.Spec PyProof.Rows
structure Mod (K : PySem.W.Frag) (mg : Str → Option Value) (base : Heap) : Prop where
  kin : K.In base
  glob : base.Ns mainGlobals mg
  blt : ∃ mb, base.Ns builtinsNs mb ∧ ∀ x : Str, x ≠ "__name__" → mb x = bootBuiltins x
  nolimit : base.NoLimit
/-- the context: a def's body (or a comprehension's block) running. base: fixed through the whole law; s₀, H₀: the entry; outer: the frames whose slots others may change (a def's callers); stack: all frames that run;
   ex: iterators that were made ahead of the entry and are walked here (a comprehension's); fn: the names whose cells were made at the entry (a def: all; a comprehension's block: its own); calm: not within an except suite; pn: pins that every state bears; xe: what is wanted of an exception that leaves the code -/
structure Cx where
  prog : Program
  w : World
  K : PySem.W.Frag
  mg : Str → Option Value
  base : Heap
  A : Around
  N : List Str
  s₀ : Shared
  H₀ : Hp
  env : Env
  outer : List Env
  stack : List Env
  ex : List Addr
  fn : Str → Bool
  calm : Bool
  pn : List (Addr × Obj)
  xe : Value → Shared → Prop
def frs (l : List Env) : List Addr := l.filterMap (·.frame)
abbrev Cx.fs (X : Cx) : List Addr := frs X.outer
def Vis (sc : Scope) (x : Str) : Prop := sc.names.lookup x = some .local ∨ sc.names.lookup x = some .cell ∨ sc.names.lookup x = some .free
def Loc (sc : Scope) (x : Str) : Prop := sc.names.lookup x = some .local ∨ sc.names.lookup x = some .cell
def Look (env : Env) (h : Heap) (m : Str → Option Value) (x : Str) (u : Value) : Prop :=
  (env.kindOf x = some .local ∧ m x = some u) ∨ ((env.kindOf x = some .cell ∨ env.kindOf x = some .free) ∧ ∃ c, env.cells.lookup x = some c ∧ h.IsCell c (some u))
structure Cx.Ok (X : Cx) : Prop where
  mod : Mod X.K X.mg X.base
  kind : X.env.scope.kind = .function
  glob : X.env.globals = mainGlobals
  blt : X.env.builtins = builtinsNs
  above : X.s₀.heap.objs.size ≤ X.env.locals
  inj : ∀ x y c, X.env.cells.lookup x = some c → X.env.cells.lookup y = some c → x = y
  has : ∀ x, (X.env.kindOf x = some .cell ∨ X.env.kindOf x = some .free) → ∃ c, X.env.cells.lookup x = some c
  cab : ∀ x c, X.fn x = true → X.env.cells.lookup x = some c → X.s₀.heap.objs.size ≤ c
  hd : X.calm = true → X.A.handled = none
  frames : X.A.frames = some X.stack
  stk : X.stack = X.outer ∨ (X.stack = X.env :: X.outer ∧ X.env.frame = some X.env.locals)
  exf : ∀ b ∈ X.ex, b ≠ X.env.locals ∧ ∀ x c, X.env.cells.lookup x = some c → c ≠ b
  bs : ∀ b o, X.base.get? b = some o → X.s₀.heap.get? b = some o ∧ X.H₀ b = none
  bsz : X.base.objs.size ≤ X.s₀.heap.objs.size
  noex : ∀ b o, X.base.get? b = some o → b ∉ X.ex
  exfs : ∀ b ∈ X.ex, b ∉ X.fs
  funs : X.s₀.heap.FunFrames X.base X.outer
  frf : ∀ b ∈ X.fs, X.H₀ b = none
structure Inv (X : Cx) (pins : List (Addr × Obj)) (σ : List (Option V)) (H : Hp) (s : Shared) : Prop where
  ok : X.Ok
  os : s.os = X.s₀.os
  bare : AllBare s.gens
  base : Un X.fs X.ex X.H₀ H X.s₀.heap s.heap
  loc : ∃ m, s.heap.Ns X.env.locals m ∧ ∀ (i : Nat) (x : Str) (v : V), X.N[i]? = some x → σ[i]? = some (some v) → Vis X.env.scope x → ∃ u, RelV v u ∧ Look X.env s.heap m x u
  cell : ∀ x c, X.env.cells.lookup x = some c → ∃ v, s.heap.IsCell c v
  free : H X.env.locals = none
  freeC : ∀ x c, X.env.cells.lookup x = some c → H c = none
  pin : ∀ p ∈ X.pn ++ pins, s.heap.get? p.1 = some p.2 ∧ H p.1 = none ∧ p.1 ≠ X.env.locals ∧ p.1 ∉ X.fs ∧ ∀ v, p.2.data ≠ .cell v
  hok : HOk X.prog X.w H s.heap
  len : σ.length = X.N.length
section
variable {X : Cx} {pins : List (Addr × Obj)} {σ : List (Option V)} {H H' : Hp} {s : Shared} {h' : Heap}
theorem Cx.Ok.nofr (ok : X.Ok) {b : Addr} {o : Obj} (e : X.base.get? b = some o) : b ∉ X.fs := fun hb => by
  have := (ok.funs.mem hb).1
  rw [e] at this; cases this
theorem Inv.bs (I : Inv X pins σ H s) : ∀ b o, X.base.get? b = some o → s.heap.get? b = some o ∧ H b = none := fun b o e =>
  ⟨I.base.keep b o (I.ok.bs b o e).1 (I.ok.bs b o e).2 (I.ok.nofr e) (I.ok.noex b o e), I.base.free b o (I.ok.bs b o e).1 (I.ok.bs b o e).2 (I.ok.noex b o e)⟩
theorem Inv.bk (I : Inv X pins σ H s) : ∀ b o, X.base.get? b = some o → s.heap.get? b = some o := fun b o e => (I.bs b o e).1
theorem Inv.mod (I : Inv X pins σ H s) : Mod X.K X.mg X.base := I.ok.mod
theorem Inv.kIn (I : Inv X pins σ H s) : X.K.In s.heap := I.ok.mod.kin.keeps I.bk
theorem Inv.lt (I : Inv X pins σ H s) : X.env.locals < s.heap.objs.size := let ⟨_, hn, _⟩ := I.loc; hn.lt
theorem Inv.sz (I : Inv X pins σ H s) : X.s₀.heap.objs.size ≤ s.heap.objs.size := Nat.le_trans I.ok.above (Nat.le_of_lt I.lt)
theorem Inv.nofs (I : Inv X pins σ H s) {a : Addr} (h : s.heap.objs.size ≤ a) : a ∉ X.fs := fun hb => by
  obtain ⟨_, o, ho, _⟩ := I.ok.funs.mem hb
  exact absurd (Nat.lt_of_lt_of_le (Heap.lt_size ho) (Nat.le_trans I.sz h)) (Nat.lt_irrefl _)
theorem Inv.cne (I : Inv X pins σ H s) : ∀ x c, X.env.cells.lookup x = some c → c ≠ X.env.locals := fun x c e z => by
  obtain ⟨v, o, ho, hd⟩ := I.cell x c e
  obtain ⟨m, ⟨o', es, ep, ho', hd', _⟩, _⟩ := I.loc
  rw [z, ho'] at ho; cases ho; rw [hd'] at hd; cases hd
theorem Inv.funs (I : Inv X pins σ H s) : s.heap.FunFrames X.base X.outer := by
  have all : ∀ (l : List Env), (∀ b ∈ frs l, b ∈ X.fs) → X.s₀.heap.FunFrames X.base l → s.heap.FunFrames X.base l := by
    intro l
    induction l with
    | nil => intro _ _; trivial
    | cons env r ih =>
      intro hs hl
      obtain ⟨hk, ⟨L, o, hf, hn, ho, hd⟩, hr⟩ := hl
      have hL : L ∈ X.fs := hs L (by unfold frs; rw [List.filterMap_cons, hf]; exact List.mem_cons_self)
      obtain ⟨sl, e⟩ := I.base.slot L o ho (I.ok.frf L hL) hL fun z => I.ok.exfs L z hL
      exact ⟨hk, ⟨L, _, hf, hn, e, hd⟩, ih (fun b hb => hs b (by unfold frs; rw [List.filterMap_cons, hf]; exact List.mem_cons_of_mem _ hb)) hr⟩
  exact all X.outer (fun _ hb => hb) I.ok.funs
theorem Inv.stack (I : Inv X pins σ H s) : s.heap.FunFrames X.base X.stack := by
  rcases I.ok.stk with e | ⟨e, hf⟩
  · rw [e]; exact I.funs
  · rw [e]
    obtain ⟨m, hn, _⟩ := I.loc
    refine .cons (by rw [I.ok.kind]; decide) hf hn ?_ I.funs
    exact Heap.get?_none_of_le (Nat.le_trans I.ok.bsz I.ok.above)
theorem Inv.stkSub (I : Inv X pins σ H s) : ∀ b ∈ frs X.stack, b ∈ X.env.locals :: X.fs := fun b hb => by
  rcases I.ok.stk with e | ⟨e, hf⟩
  · rw [e] at hb; exact List.mem_cons_of_mem _ hb
  · rw [e] at hb
    unfold frs at hb
    rw [List.filterMap_cons, hf] at hb
    exact hb
theorem Inv.stkFree (I : Inv X pins σ H s) : ∀ b ∈ frs X.stack, H b = none := fun b hb => by
  rcases List.mem_cons.mp (I.stkSub b hb) with e | hb
  · rw [e]; exact I.free
  · obtain ⟨_, o, ho, _⟩ := I.ok.funs.mem hb
    exact I.base.free b o ho (I.ok.frf b hb) fun z => I.ok.exfs b z hb
theorem Inv.step {g' : Array GenState} {t' : Nat} {d' : Drawn} {ch : List Addr} (I : Inv X pins σ H s)
    (hch : ∀ b ∈ ch, (b ∈ X.ex ∨ X.s₀.heap.objs.size ≤ b) ∧ b ≠ X.env.locals ∧ (∀ x c, X.env.cells.lookup x = some c → c ≠ b) ∧ ∀ p ∈ X.pn ++ pins, p.1 ≠ b)
    (keep : ∀ b o, b ≠ X.env.locals → b ∉ X.fs → b ∉ ch → s.heap.get? b = some o → H b = none → h'.get? b = some o)
    (slot : ∀ b o, b ≠ X.env.locals → b ∈ X.fs → b ∉ ch → s.heap.get? b = some o → H b = none → ∃ sl, h'.get? b = some { o with slots := sl }) (free : ∀ b o, b ∉ ch → s.heap.get? b = some o → H b = none → H' b = none)
    (there : ∀ b o, b ∉ ch → s.heap.get? b = some o → ∃ o', h'.get? b = some o')
    (tups : ∀ b xs, H b = some (.tup xs) → H' b = some (.tup xs)) (frzs : ∀ b o u, H b = some (.frz o u) → H' b = some (.frz o u)) (tbls : ∀ b ps, H b = some (.tbl ps) → ∃ more, H' b = some (.tbl (ps ++ more)))
    (ns : ∀ m, s.heap.Ns X.env.locals m → h'.Ns X.env.locals m) (hok : HOk X.prog X.w H' h') (hg : AllBare g') :
    Inv X pins σ H' { s with heap := h', gens := g', drawn := d', toks := t' } := by
  have neL : ∀ b o, X.s₀.heap.get? b = some o → b ≠ X.env.locals := fun b o e => Nat.ne_of_lt (Nat.lt_of_lt_of_le (Heap.lt_size e) I.ok.above)
  have neC : ∀ b o, X.s₀.heap.get? b = some o → b ∉ X.ex → b ∉ ch := fun b o e hx hb => by
    rcases (hch b hb).1 with z | z
    · exact hx z
    · exact absurd (Nat.lt_of_lt_of_le (Heap.lt_size e) z) (Nat.lt_irrefl _)
  have cellK : ∀ x c, X.env.cells.lookup x = some c → ∀ v, s.heap.IsCell c v → h'.IsCell c v := fun x c e v ⟨o, ho, hd⟩ => by
    have nch : c ∉ ch := fun z => (hch c z).2.2.1 x c e rfl
    by_cases hc : c ∈ X.fs
    · obtain ⟨sl, q⟩ := slot c o (I.cne x c e) hc nch ho (I.freeC x c e)
      exact ⟨_, q, hd⟩
    · exact ⟨o, keep c o (I.cne x c e) hc nch ho (I.freeC x c e), hd⟩
  refine ⟨I.ok, I.os, hg, ⟨fun b o e n hb hx => ?_, fun b o e n hb hx => ?_, fun b o e n hx => ?_, fun b o e hx => ?_, fun b xs e => tups b xs (I.base.tups b xs e), fun b o xs e => frzs b o xs (I.base.frzs b o xs e), fun b ps e => ?_⟩, ?_, fun x c e => ?_, ?_, fun x c e => ?_, fun p hp => ?_, hok, I.len⟩
  · exact keep b o (neL b o e) hb (neC b o e hx) (I.base.keep b o e n hb hx) (I.base.free b o e n hx)
  · obtain ⟨sl, e1⟩ := I.base.slot b o e n hb hx
    obtain ⟨sl', e2⟩ := slot b _ (neL b o e) hb (neC b o e hx) e1 (I.base.free b o e n hx)
    exact ⟨sl', e2⟩
  · obtain ⟨o', e1⟩ := I.base.there b o e hx
    exact free b o' (neC b o e hx) e1 (I.base.free b o e n hx)
  · obtain ⟨o', e1⟩ := I.base.there b o e hx
    exact there b o' (neC b o e hx) e1
  · obtain ⟨m1, e1⟩ := I.base.tbls b ps e
    obtain ⟨m2, e2⟩ := tbls b _ e1
    exact ⟨m1 ++ m2, by rw [e2, Array.append_assoc]⟩
  · obtain ⟨m, hn, hl⟩ := I.loc
    refine ⟨m, ns m hn, fun i x v e1 e2 e3 => ?_⟩
    obtain ⟨u, r, l⟩ := hl i x v e1 e2 e3
    refine ⟨u, r, ?_⟩
    rcases l with l | ⟨k, c, e, z⟩
    · exact .inl l
    · exact .inr ⟨k, c, e, cellK x c e _ z⟩
  · obtain ⟨v, z⟩ := I.cell x c e
    exact ⟨v, cellK x c e v z⟩
  · obtain ⟨m, ⟨o, _, _, ho, _⟩, _⟩ := I.loc
    exact free _ o (fun z => (hch _ z).2.1 rfl) ho I.free
  · obtain ⟨v, o, ho, hd⟩ := I.cell x c e
    exact free c o (fun z => (hch c z).2.2.1 x c e rfl) ho (I.freeC x c e)
  · obtain ⟨e, n, ne, nf, d⟩ := I.pin p hp
    have nch : p.1 ∉ ch := fun z => (hch p.1 z).2.2.2 p hp rfl
    exact ⟨keep p.1 p.2 ne nf nch e n, free p.1 p.2 nch e n, ne, nf, d⟩
theorem Inv.un {t' : Nat} (I : Inv X pins σ H s) (u : Un X.fs [] H H' s.heap h') (hok : HOk X.prog X.w H' h') : Inv X pins σ H' { s with heap := h', toks := t' } := by
  obtain ⟨m, ⟨o, es, ep, ho, r⟩, _⟩ := id I.loc
  obtain ⟨sl, hL⟩ := u.any ho I.free (by simp)
  exact I.step (g' := s.gens) (d' := s.drawn) (ch := []) (fun _ z => nomatch z) (fun b o _ hb _ e n => u.keep b o e n hb (by simp)) (fun b o _ hb _ e n => u.slot b o e n hb (by simp)) (fun b o _ e n => u.free b o e n (by simp)) (fun b o _ e => u.there b o e (by simp)) u.tups u.frzs u.tbls (fun m' hm => by
    obtain ⟨o', es', ep', ho', r'⟩ := hm
    rw [ho] at ho'; cases ho'
    exact ⟨_, es', ep', hL, r'⟩) hok I.bare
theorem Inv.call {g' : Array GenState} {t' : Nat} {d' : Drawn} {ch : List Addr} (I : Inv X pins σ H s) (u : Un (frs X.stack) ch H H' s.heap h') (hok : HOk X.prog X.w H' h') (hg : AllBare g')
    (hch : ∀ b ∈ ch, (b ∈ X.ex ∨ X.s₀.heap.objs.size ≤ b) ∧ b ≠ X.env.locals ∧ (∀ x c, X.env.cells.lookup x = some c → c ≠ b) ∧ ∀ p ∈ X.pn ++ pins, p.1 ≠ b) :
    Inv X pins σ H' { s with heap := h', gens := g', drawn := d', toks := t' } := by
  obtain ⟨m, ⟨o, es, ep, ho, r⟩, _⟩ := id I.loc
  obtain ⟨sl, hL⟩ := u.any ho I.free fun z => (hch _ z).2.1 rfl
  exact I.step (ch := ch) hch (fun b o hL hb hc e n => u.keep b o e n (fun z => (List.mem_cons.mp (I.stkSub b z)).elim hL hb) hc) (fun b o _ _ hc e n => u.any e n hc) (fun b o hc e n => u.free b o e n hc) (fun b o hc e => u.there b o e hc) u.tups u.frzs u.tbls (fun m' hm => by
    obtain ⟨o', es', ep', ho', r'⟩ := hm
    rw [ho] at ho'; cases ho'
    exact ⟨_, es', ep', hL, r'⟩) hok hg
theorem Inv.turned {t' : Nat} {it : Addr} (I : Inv X pins σ H s) (k : ∀ b o, b ≠ it → s.heap.get? b = some o → h'.get? b = some o) (hn : H it = none) (hL : it ≠ X.env.locals)
    (h1 : it ∈ X.ex ∨ X.s₀.heap.objs.size ≤ it) (h2 : ∀ x c, X.env.cells.lookup x = some c → c ≠ it) (h3 : ∀ p ∈ X.pn ++ pins, p.1 ≠ it) : Inv X pins σ H { s with heap := h', toks := t' } := by
  have nit : ∀ b u, H b = some u → b ≠ it := fun b u e z => by rw [z, hn] at e; cases e
  refine I.step (g' := s.gens) (d' := s.drawn) (ch := [it]) (fun b hb => ?_) (fun b o _ _ hc e _ => k b o (fun z => hc (by simp [z])) e) (fun b o _ _ hc e _ => ⟨o.slots, k b o (fun z => hc (by simp [z])) e⟩) (fun _ _ _ _ n => n)
    (fun b o hc e => ⟨o, k b o (fun z => hc (by simp [z])) e⟩) (fun _ _ e => e) (fun _ _ _ e => e) (fun b ps e => ⟨#[], by rw [e]; simp⟩) (fun m hm => ?_) (fun b u e => ?_) I.bare
  · have e : b = it := by simpa using hb
    subst e
    exact ⟨h1, hL, h2, h3⟩
  · obtain ⟨o, es, ep, ho, r⟩ := hm
    exact ⟨o, es, ep, k _ o (Ne.symm hL) ho, r⟩
  · refine (I.hok b u e).stay (fun c v hc q => k c v ?_ q) (fun _ q => q) fun _ _ q => q
    rcases hc with z | z
    · rw [z]; exact nit b u e
    · exact nit c _ z
theorem Inv.tok (I : Inv X pins σ H s) (t : Nat) : Inv X pins σ H { s with toks := t } := I.un (h' := s.heap) (t' := t) Un.refl I.hok
theorem Inv.kept {t' : Nat} (I : Inv X pins σ H s) (k : ∀ b u, s.heap.get? b = some u → h'.get? b = some u) : Inv X pins σ H { s with heap := h', toks := t' } := I.un (Un.kept k) (I.hok.kept k)
theorem Inv.laid {a : Addr} {o : HO} {t' : Nat} (I : Inv X pins σ H s) (k : ∀ b u, s.heap.get? b = some u → h'.get? b = some u) (hp : s.heap.objs.size ≤ a) (new : ObjOk X.prog X.w (upd H a o) h' a o) :
    Inv X pins σ (upd H a o) { s with heap := h', toks := t' } := I.un (Un.laid k hp (I.hok.fresh hp)) (I.hok.laid k hp new)
theorem Inv.write {x e : Addr} {o : HO} {t' : Nat} (I : Inv X pins σ H s) (mu : Mut (H x)) (he : e = x ∨ H e = some (.own x)) (k : ∀ b u, b ≠ e → s.heap.get? b = some u → h'.get? b = some u) (heo : ∃ u, h'.get? e = some u)
    (new : ObjOk X.prog X.w (upd H x o) h' x o) : Inv X pins σ (upd H x o) { s with heap := h', toks := t' } := I.un (Un.write mu he k heo) (I.hok.write mu he k heo new)
theorem Inv.pins_of {pins' : List (Addr × Obj)} (I : Inv X pins σ H s) (h : ∀ p ∈ pins', s.heap.get? p.1 = some p.2 ∧ H p.1 = none ∧ p.1 ≠ X.env.locals ∧ p.1 ∉ X.fs ∧ ∀ v, p.2.data ≠ .cell v) : Inv X pins' σ H s :=
  ⟨I.ok, I.os, I.bare, I.base, I.loc, I.cell, I.free, I.freeC, fun p hp => (List.mem_append.mp hp).elim (fun z => I.pin p (List.mem_append_left _ z)) (h p), I.hok, I.len⟩
theorem nodup_ix {N : List Str} (hN : N.Nodup) {i j : Nat} {x : Str} (a : N[i]? = some x) (b : N[j]? = some x) : i = j := by
  obtain ⟨h1, e1⟩ := List.getElem?_eq_some_iff.mp a
  obtain ⟨h2, e2⟩ := List.getElem?_eq_some_iff.mp b
  exact (List.getElem_inj hN).mp (e1.trans e2.symm)
theorem store_ok2 {M : Model} {A : Around} {E : Value → Shared → Prop} {i : Nat} {x : Str} {v : V} {u : Value} {Q : Unit → Shared → Prop} (I : Inv X pins σ H s) (hN : X.N.Nodup) (hi : X.N[i]? = some x) (hx : Loc X.env.scope x) (r : RelV v u)
    (h : ∀ s', Inv X pins (σ.set i (some v)) H s' → (∃ a, Heap.SameBut a s.heap s'.heap ∧ (a = X.env.locals ∨ X.env.cells.lookup x = some a)) → Q () s') (hf : X.fn x = true ∨ X.env.scope.names.lookup x = some .local := by first | exact .inl rfl | exact .inr rfl | assumption) : wpAny M A (storeName X.env x u) Q E s := by
  obtain ⟨m, hn, hl⟩ := id I.loc
  have hcls : (X.env.scope.kind == .class || (X.env.scope.kind == .module && X.env.locals != X.env.globals)) = false := by rw [I.ok.kind]; rfl
  have hiσ : i < σ.length := by rw [I.len]; exact (List.getElem?_eq_some_iff.mp hi).1
  have cne := I.cne
  have tracked : ∀ {a : Addr} {h' : Heap}, (∃ o, s.heap.get? a = some o ∧ H a = none) → Heap.SameBut a s.heap h' → HOk X.prog X.w H h' := fun {a h'} ha hs b ob e => by
    obtain ⟨_, _, hfree⟩ := ha
    refine (I.hok b ob e).stay (fun c w' hc q => (hs.2 c ?_).trans q) (fun _ q => q) fun _ _ q => q
    rintro rfl
    rcases hc with rfl | hc
    · rw [hfree] at e; cases e
    · rw [hfree] at hc; cases hc
  rcases hx with hk | hk
  · refine wpAny_storeName_local hk hn (fun h' hn' hs => ?_) hcls
    obtain ⟨oL, _, _, hoL, _⟩ := id hn
    refine h _ ⟨I.ok, I.os, I.bare, ⟨fun b o e n hb hx => ?_, fun b o e n hb hx => ?_, I.base.free, fun b o e hx => ?_, I.base.tups, I.base.frzs, I.base.tbls⟩, ⟨_, hn', fun j y v' e1 e2 e3 => ?_⟩, fun y c e => ?_, I.free, I.freeC, fun p hp => ?_, tracked ⟨oL, hoL, I.free⟩ hs, by simpa using I.len⟩ ⟨_, hs, .inl rfl⟩
    · exact (hs.2 b (Nat.ne_of_lt (Nat.lt_of_lt_of_le (Heap.lt_size e) I.ok.above))).trans (I.base.keep b o e n hb hx)
    · obtain ⟨sl, e1⟩ := I.base.slot b o e n hb hx
      exact ⟨sl, (hs.2 b (Nat.ne_of_lt (Nat.lt_of_lt_of_le (Heap.lt_size e) I.ok.above))).trans e1⟩
    · obtain ⟨o', e1⟩ := I.base.there b o e hx
      exact ⟨o', (hs.2 b (Nat.ne_of_lt (Nat.lt_of_lt_of_le (Heap.lt_size e) I.ok.above))).trans e1⟩
    · by_cases hj : j = i
      · subst hj
        rw [hi] at e1; cases e1
        rw [List.getElem?_set_self hiσ] at e2
        cases e2
        exact ⟨u, r, .inl ⟨hk, by simp⟩⟩
      · rw [List.getElem?_set_ne (Ne.symm hj)] at e2
        obtain ⟨u', r', q⟩ := hl j y v' e1 e2 e3
        refine ⟨u', r', ?_⟩
        rcases q with ⟨k, e⟩ | ⟨k, c, e, z⟩
        · refine .inl ⟨k, ?_⟩
          have : y ≠ x := fun e => hj (nodup_ix hN e1 (e ▸ hi))
          simp [this, e]
        · exact .inr ⟨k, c, e, z.sameBut hs (cne y c e)⟩
    · obtain ⟨w', z⟩ := I.cell y c e
      exact ⟨w', z.sameBut hs (cne y c e)⟩
    · obtain ⟨e, n, ne, nf, d⟩ := I.pin p hp
      exact ⟨(hs.2 p.1 ne).trans e, n, ne, nf, d⟩
  · have hfn : X.fn x = true := by
      rcases hf with z | z
      · exact z
      · rw [z] at hk; cases hk
    obtain ⟨c, hc⟩ := I.ok.has x (.inl hk)
    obtain ⟨w', z⟩ := I.cell x c hc
    refine wpAny_storeName_cell I.ok.kind hk hc z (fun h' hc' hs => ?_)
    obtain ⟨oc, hoc, hocd⟩ := id z
    refine h { s with heap := h' } ⟨I.ok, I.os, I.bare, ⟨fun b o e n hb hx => ?_, fun b o e n hb hx => ?_, I.base.free, fun b o e hx => ?_, I.base.tups, I.base.frzs, I.base.tbls⟩, ⟨m, hn.sameBut hs (Ne.symm (cne x c hc)), fun j y v' e1 e2 e3 => ?_⟩, fun y c' e => ?_, I.free, I.freeC, fun p hp => ?_, tracked ⟨oc, hoc, I.freeC x c hc⟩ hs, by simpa using I.len⟩ ⟨c, hs, .inr hc⟩
    · exact (hs.2 b (Nat.ne_of_lt (Nat.lt_of_lt_of_le (Heap.lt_size e) (I.ok.cab x c hfn hc)))).trans (I.base.keep b o e n hb hx)
    · obtain ⟨sl, e1⟩ := I.base.slot b o e n hb hx
      exact ⟨sl, (hs.2 b (Nat.ne_of_lt (Nat.lt_of_lt_of_le (Heap.lt_size e) (I.ok.cab x c hfn hc)))).trans e1⟩
    · obtain ⟨o', e1⟩ := I.base.there b o e hx
      exact ⟨o', (hs.2 b (Nat.ne_of_lt (Nat.lt_of_lt_of_le (Heap.lt_size e) (I.ok.cab x c hfn hc)))).trans e1⟩
    · by_cases hj : j = i
      · subst hj
        rw [hi] at e1; cases e1
        rw [List.getElem?_set_self hiσ] at e2
        cases e2
        exact ⟨u, r, .inr ⟨.inl hk, c, hc, hc'⟩⟩
      · rw [List.getElem?_set_ne (Ne.symm hj)] at e2
        obtain ⟨u', r', q⟩ := hl j y v' e1 e2 e3
        refine ⟨u', r', ?_⟩
        rcases q with q | ⟨k, c', e, z'⟩
        · exact .inl q
        · refine .inr ⟨k, c', e, z'.sameBut hs ?_⟩
          rintro rfl
          exact hj (nodup_ix hN e1 (I.ok.inj _ _ _ e hc ▸ hi))
    · by_cases hcc : c' = c
      · subst hcc; exact ⟨_, hc'⟩
      · obtain ⟨w2, z2⟩ := I.cell y c' e
        exact ⟨w2, z2.sameBut hs hcc⟩
    · obtain ⟨e, n, ne, nf, d⟩ := I.pin p hp
      refine ⟨(hs.2 p.1 ?_).trans e, n, ne, nf, d⟩
      intro q
      rw [q, hoc] at e
      have q' : oc = p.2 := Option.some.inj e
      exact d w' (by rw [← q']; exact hocd)
theorem store_ok {M : Model} {A : Around} {E : Value → Shared → Prop} {i : Nat} {x : Str} {v : V} {u : Value} {Q : Unit → Shared → Prop} (I : Inv X pins σ H s) (hN : X.N.Nodup) (hi : X.N[i]? = some x) (hx : Loc X.env.scope x) (r : RelV v u)
    (h : ∀ s', Inv X pins (σ.set i (some v)) H s' → Q () s') (hf : X.fn x = true ∨ X.env.scope.names.lookup x = some .local := by first | exact .inl rfl | exact .inr rfl | assumption) : wpAny M A (storeName X.env x u) Q E s :=
  store_ok2 I hN hi hx r (fun s' I' _ => h s' I') hf
theorem Inv.call' {s' : Shared} {ch : List Addr} (I : Inv X pins σ H s) (ho : s'.os = s.os) (u : Un (frs X.stack) ch H H' s.heap s'.heap) (hok : HOk X.prog X.w H' s'.heap) (hg : AllBare s'.gens)
    (hch : ∀ b ∈ ch, (b ∈ X.ex ∨ X.s₀.heap.objs.size ≤ b) ∧ b ≠ X.env.locals ∧ (∀ x c, X.env.cells.lookup x = some c → c ≠ b) ∧ ∀ p ∈ X.pn ++ pins, p.1 ≠ b) : Inv X pins σ H' s' := by
  obtain ⟨h', g', d', t', o'⟩ := s'
  have e : o' = s.os := ho
  subst e
  exact I.call (g' := g') (t' := t') (d' := d') u hok hg hch
end
abbrev XK := Value → Option Addr → Hp → Prop
abbrev St := List (Option V)
abbrev VK := V → Hp → Prop
abbrev TE := St → Hp → VK → Prop
abbrev TT := St → Hp → (Bool → Hp → Prop) → Prop
abbrev TA := St → Hp → (List V → Hp → Prop) → Prop
structure Ends where
  nx : St → Hp → Prop
  rt : VK
  bk : St → Hp → Prop := fun _ _ => False
  ct : St → Hp → Prop := fun _ _ => False
abbrev TS := Ends → St → Hp → Prop
def EP (X : Cx) (pins : List (Addr × Obj)) (σ : St) (Q : VK) (u : Value) (s' : Shared) : Prop := ∃ v H', Inv X pins σ H' s' ∧ RelV v u ∧ Q v H'
def TP (X : Cx) (pins : List (Addr × Obj)) (σ : St) (Q : Bool → Hp → Prop) (b : Bool) (s' : Shared) : Prop := ∃ H', Inv X pins σ H' s' ∧ Q b H'
def AP (X : Cx) (pins : List (Addr × Obj)) (σ : St) (Q : List V → Hp → Prop) (us : List Value) (s' : Shared) : Prop := ∃ vs H', Inv X pins σ H' s' ∧ Vals vs us ∧ Q vs H'
def SP (X : Cx) (pins : List (Addr × Obj)) (D : Ends) (f : Flow) (s' : Shared) : Prop :=
  match f with
  | .next => ∃ σ' H', Inv X pins σ' H' s' ∧ D.nx σ' H'
  | .brk => ∃ σ' H', Inv X pins σ' H' s' ∧ D.bk σ' H'
  | .cont => ∃ σ' H', Inv X pins σ' H' s' ∧ D.ct σ' H'
  | .ret u => ∃ v σ' H', Inv X pins σ' H' s' ∧ RelV v u ∧ D.rt v H'
def PE (X : Cx) (e : Expr) (t : TE) : Prop :=
  ∀ (pins : List (Addr × Obj)) (s : Shared) (σ : St) (H : Hp) (Q : VK), Inv X pins σ H s → t σ H Q → wpAny (model X.prog X.w) X.A (eval e X.env) (EP X pins σ Q) X.xe s
def PT (X : Cx) (e : Expr) (t : TT) : Prop :=
  ∀ (pins : List (Addr × Obj)) (s : Shared) (σ : St) (H : Hp) (Q : Bool → Hp → Prop), Inv X pins σ H s → t σ H Q → wpAny (model X.prog X.w) X.A (isTrue e X.env (eval e X.env)) (TP X pins σ Q) X.xe s
def PW (X : Cx) (e : Expr) (t : TT) : Prop :=
  ∀ (whole : Sem Value) (pins : List (Addr × Obj)) (s : Shared) (σ : St) (H : Hp) (Q : Bool → Hp → Prop), Inv X pins σ H s → t σ H Q → wpAny (model X.prog X.w) X.A (isTrue e X.env whole) (TP X pins σ Q) X.xe s
theorem PW.pt {X : Cx} {e : Expr} {t : TT} (h : PW X e t) : PT X e t := h _
def PA (X : Cx) (es : List Expr) (t : TA) : Prop :=
  ∀ (pos : Pos) (pins : List (Addr × Obj)) (s : Shared) (σ : St) (H : Hp) (Q : List V → Hp → Prop), Inv X pins σ H s → t σ H Q → wpAny (model X.prog X.w) X.A (spliced (backTo pos (starEach es X.env))) (AP X pins σ Q) X.xe s
def PS (X : Cx) (st : Stmt) (t : TS) : Prop :=
  ∀ (pins : List (Addr × Obj)) (s : Shared) (σ : St) (H : Hp) (D : Ends), Inv X pins σ H s → t D σ H → wpAny (model X.prog X.w) X.A (exec st X.env) (SP X pins D) X.xe s
def PSs (X : Cx) (st : List Stmt) (t : TS) : Prop :=
  ∀ (pins : List (Addr × Obj)) (s : Shared) (σ : St) (H : Hp) (D : Ends), Inv X pins σ H s → t D σ H → wpAny (model X.prog X.w) X.A (execs st X.env) (SP X pins D) X.xe s
theorem thn {α : Type} {t : Sem α} {Q Q' : α → Shared → Prop} {M : Model} {A : Around} {E : Value → Shared → Prop} {s : Shared} (h : wpAny M A t Q E s) (hQ : ∀ a s, Q a s → Q' a s) : wpAny M A t Q' E s := wpAny_mono h hQ fun _ _ x => x
end L2
namespace L2
open PySem PySem.Spec PyProof.Rows
section
variable {X : Cx}
def tVar (i : Nat) : TE := fun σ H Q => ∃ v, σ[i]? = some (some v) ∧ Q v H
def tC (v : V) : TE := fun _ H Q => Q v H
theorem pe_var {i : Nat} {x : Str} {pos : Pos} (hN : X.N[i]? = some x) (hv : Vis X.env.scope x) (hd : (x == ("__debug__" : Str)) = false := by decide) (hcd : (x == ("__classdict__" : Str)) = false := by decide) : PE X (.Name x pos) (tVar i) := by
  intro pins s σ H Q I h
  obtain ⟨v, e, h⟩ := h
  obtain ⟨m, hn, hl⟩ := I.loc
  obtain ⟨u, r, l⟩ := hl i x v hN e hv
  have fin : EP X pins σ Q u s := ⟨v, H, I, r, h⟩
  rcases l with ⟨hk, hm⟩ | ⟨hk, c, hc, hcell⟩
  · exact wpAny_Name (wpAny_loadName_local I.ok.kind hk hn hm fin) hd
  · rcases hk with hk | hk
    · exact wpAny_Name (wpAny_loadName_cell I.ok.kind hk hc hcell fin) hd
    · exact wpAny_Name (wpAny_loadName_free I.ok.kind hk hc hcell fin hcd) hd
theorem pe_int {i j pos} : PE X (.Constant (.int i) j pos) (tC (.int i)) := fun _ _ _ H _ I h => wpAny_Constant_int ⟨.int i, H, I.tok _, ⟨_, rfl⟩, h⟩
theorem pe_bl {b j pos} : PE X (.Constant (.bool b) j pos) (tC (.bl b)) := fun _ _ _ H _ I h => Constant_bool ⟨.bl b, H, I, rfl, h⟩
theorem pe_non {j pos} : PE X (.Constant .none j pos) (tC .non) := fun _ _ _ H _ I h => Constant_none ⟨.non, H, I, rfl, h⟩
theorem pe_str {x j pos} : PE X (.Constant (.str x) j pos) (tC (.str x)) := fun _ _ _ H _ I h => Calls.Constant_str ⟨.str x, H, I.tok _, ⟨_, rfl⟩, h⟩
def Gl (X : Cx) (x : Str) : Prop := X.env.kindOf x = some .globalImplicit
theorem ld_glob {E : Value → Shared → Prop} {pins : List (Addr × Obj)} {s : Shared} {σ : St} {H : Hp} {x : Str} {u : Value} {pos : Pos} {Q : Value → Shared → Prop} (I : Inv X pins σ H s) (hg : Gl X x) (hm : X.mg x = some u) (h : Q u s)
    (hd : (x == ("__debug__" : Str)) = false := by decide) : wpAny (model X.prog X.w) X.A (eval (.Name x pos) X.env) Q E s :=
  Calls.Name_function_global I.ok.kind hg (Calls.loadGlobal_global (by rw [I.ok.glob]; exact I.mod.glob.keeps I.bk) hm h) hd
theorem ld_blt {E : Value → Shared → Prop} {pins : List (Addr × Obj)} {s : Shared} {σ : St} {H : Hp} {x : Str} {u : Value} {pos : Pos} {Q : Value → Shared → Prop} (I : Inv X pins σ H s) (hg : Gl X x) (hm : X.mg x = none) (hv : bootBuiltins x = some u) (h : Q u s)
    (hn : x ≠ "__name__" := by decide) (hd : (x == ("__debug__" : Str)) = false := by decide) : wpAny (model X.prog X.w) X.A (eval (.Name x pos) X.env) Q E s := by
  obtain ⟨mb, h1, h2⟩ := I.mod.blt
  exact Calls.Name_function_global I.ok.kind hg (Calls.loadGlobal_builtin (by rw [I.ok.glob]; exact I.mod.glob.keeps I.bk) hm (by rw [I.ok.blt]; exact h1.keeps I.bk) ((h2 x hn).trans hv) h) hd
theorem pe_glob {x : Str} {v : V} {u : Value} {pos : Pos} (hg : Gl X x) (hm : X.mg x = some u) (r : RelV v u) (hd : (x == ("__debug__" : Str)) = false := by decide) : PE X (.Name x pos) (tC v) :=
  fun _ _ _ H _ I h => ld_glob I hg hm ⟨v, H, I, r, h⟩ hd
theorem pe_bltn {x : Str} {v : V} {u : Value} {pos : Pos} (hg : Gl X x) (hm : X.mg x = none) (hv : bootBuiltins x = some u) (r : RelV v u) (hn : x ≠ "__name__" := by decide) (hd : (x == ("__debug__" : Str)) = false := by decide) : PE X (.Name x pos) (tC v) :=
  fun _ _ _ H _ I h => ld_blt I hg hm hv ⟨v, H, I, r, h⟩ hn hd
def t2I (ta tb : TE) (k : Int → Int → Hp → Prop) : St → Hp → Prop := fun σ H => ta σ H fun x H1 => tb σ H1 fun y H2 => ∃ i j, x = .int i ∧ y = .int j ∧ k i j H2
def tAdd (ta tb : TE) : TE := fun σ H Q => t2I ta tb (fun i j H2 => Q (.int (i + j)) H2) σ H
def tSub (ta tb : TE) : TE := fun σ H Q => t2I ta tb (fun i j H2 => Q (.int (i - j)) H2) σ H
def tMul (ta tb : TE) : TE := fun σ H Q => t2I ta tb (fun i j H2 => (-(2 ^ 64) < i ∧ i < 2 ^ 64) ∧ Q (.int (i * j)) H2) σ H
variable {a b : Expr} {ta tb : TE} {pos : Pos}
def PC (X : Cx) (op : CmpOp) (a b : Expr) (t : TE) : Prop :=
  ∀ (pins : List (Addr × Obj)) (s : Shared) (σ : St) (H : Hp) (Q : VK), Inv X pins σ H s → t σ H Q →
    wpAny (model X.prog X.w) X.A (eval a X.env) (fun v s₁ => wpAny (model X.prog X.w) X.A (eval b X.env) (fun u s₂ => wpAny (model X.prog X.w) X.A (compareOp op v u) (EP X pins σ Q) X.xe s₂) X.xe s₁) X.xe s
def tCmp (p : Int → Int → Bool) (ta tb : TE) : TE := fun σ H Q => t2I ta tb (fun i j H2 => Q (.bl (p i j)) H2) σ H
abbrev tLt : TE → TE → TE := tCmp fun i j => decide (i < j)
abbrev tLe : TE → TE → TE := tCmp fun i j => decide (i ≤ j)
abbrev tGt : TE → TE → TE := tCmp fun i j => decide (j < i)
abbrev tGe : TE → TE → TE := tCmp fun i j => decide (j ≤ i)
abbrev tEqI : TE → TE → TE := tCmp fun i j => decide (i = j)
abbrev tNeI : TE → TE → TE := tCmp fun i j => !decide (i = j)
def tIsN (ta : TE) : TE := fun σ H Q => ta σ H fun x H1 => Q (.bl (decide (x = .non))) H1
def tNotN (ta : TE) : TE := fun σ H Q => ta σ H fun x H1 => Q (.bl (!decide (x = .non))) H1
def tB (t : TE) : TT := fun σ H Q => t σ H fun x H1 => ∃ c, x = .bl c ∧ Q c H1
theorem pt_val {e : Expr} {t : TE} (h : PE X e t) (he : ∀ whole, isTrue e X.env whole = (do let v ← whole; standAt e.pos; holding [v] (truthy v)) := by intro _; rfl) : PT X e (tB t) := by
  intro pins s σ H Q I hw
  refine isTrue_plain (thn (h pins s σ H _ I hw) fun v s1 ⟨x, H1, I1, r1, q1⟩ => ?_) (he _)
  obtain ⟨d, rfl, q⟩ := q1
  cases r1
  exact wpAny_truthy_bool ⟨H1, I1, q⟩
variable {tA tB' : TT} {rest : List Expr}
def tAnd (t u : TT) : TT := fun σ H Q => t σ H fun c H1 => if c = true then u σ H1 Q else Q false H1
def tOr (t u : TT) : TT := fun σ H Q => t σ H fun c H1 => if c = true then Q true H1 else u σ H1 Q
def tNot (t : TT) : TT := fun σ H Q => t σ H fun c H1 => Q (!c) H1
theorem pw_and1 (ha : PT X a tA) : PW X (.BoolOp .And [a] pos) tA := by
  intro wh pins s σ H Q I h
  refine isTrue_and (thn (ha pins s σ H Q I h) fun c s1 e => ?_)
  cases c with
  | true => exact isTrue_and_nil e
  | false => exact e
theorem pw_or1 (ha : PT X a tA) : PW X (.BoolOp .Or [a] pos) tA := by
  intro wh pins s σ H Q I h
  refine isTrue_or (thn (ha pins s σ H Q I h) fun c s1 e => ?_)
  cases c with
  | false => exact isTrue_or_nil e
  | true => exact e
theorem pw_and (ha : PT X a tA) (hb : PW X (.BoolOp .And (b :: rest) pos) tB') : PW X (.BoolOp .And (a :: b :: rest) pos) (tAnd tA tB') := by
  intro wh pins s σ H Q I h
  refine isTrue_and (thn (ha pins s σ H _ I h) fun c s1 ⟨H1, I1, q1⟩ => ?_)
  cases c with
  | true => exact hb wh pins s1 σ H1 Q I1 q1
  | false => exact ⟨H1, I1, q1⟩
theorem pw_or (ha : PT X a tA) (hb : PW X (.BoolOp .Or (b :: rest) pos) tB') : PW X (.BoolOp .Or (a :: b :: rest) pos) (tOr tA tB') := by
  intro wh pins s σ H Q I h
  refine isTrue_or (thn (ha pins s σ H _ I h) fun c s1 ⟨H1, I1, q1⟩ => ?_)
  cases c with
  | true => exact ⟨H1, I1, q1⟩
  | false => exact hb wh pins s1 σ H1 Q I1 q1
theorem pt_not (ha : PT X a tA) : PT X (.UnaryOp .Not a pos) (tNot tA) := by
  intro pins s σ H Q I h
  exact isTrue_not (ha pins s σ H (fun c H1 => Q (!c) H1) I h)
def tAndV (ta tb : TE) : TE := fun σ H Q => ta σ H fun x H1 => ∃ c, x = .bl c ∧ if c = true then tb σ H1 Q else Q (.bl false) H1
def tOrV (ta tb : TE) : TE := fun σ H Q => ta σ H fun x H1 => ∃ c, x = .bl c ∧ if c = true then Q (.bl true) H1 else tb σ H1 Q
def tNotV (ta : TE) : TE := fun σ H Q => ta σ H fun x H1 => ∃ c, x = .bl c ∧ Q (.bl (!c)) H1
theorem pe_one {op} {t : TE} (h : PE X a t) : PE X (.BoolOp op [a] pos) t := fun pins s σ H Q I hw => BoolOp_one (h pins s σ H Q I hw)
theorem pe_and (ha : PE X a ta) (hb : PE X (.BoolOp .And (b :: rest) pos) tb) : PE X (.BoolOp .And (a :: b :: rest) pos) (tAndV ta tb) := by
  intro pins s σ H Q I h
  refine BoolOp_and (thn (ha pins s σ H _ I h) fun v s1 ⟨x, H1, I1, r1, q1⟩ => ?_)
  obtain ⟨c, rfl, q1⟩ := q1
  cases r1
  refine wpAny_truthy_bool ?_
  cases c with
  | true => exact hb pins s1 σ H1 Q I1 q1
  | false => exact ⟨.bl false, H1, I1, rfl, q1⟩
def tIf (t : TT) (ta tb : TE) : TE := fun σ H Q => t σ H fun c H1 => if c = true then ta σ H1 Q else tb σ H1 Q
theorem pe_ifExp {c : Expr} (hc : PT X c tA) (ha : PE X a ta) (hb : PE X b tb) : PE X (.IfExp c a b pos) (tIf tA ta tb) := by
  intro pins s σ H Q I h
  refine wpAny_IfExp (thn (hc pins s σ H _ I h) fun d s1 ⟨H1, I1, q1⟩ => ?_)
  cases d with
  | true => exact ha pins s1 σ H1 Q I1 q1
  | false => exact hb pins s1 σ H1 Q I1 q1
end
end L2
namespace L2
open PySem PySem.Spec PyProof.Rows
def SqL (K : PySem.W.Frag) (H : Hp) (a : Addr) (xs : List V) : Prop :=
  Rd H a (.lst xs) ∨
    ∃ (o : Obj) (its : Array Value) (n : Nat), K.lookup a = some o ∧ o.cls = .type "list" ∧ o.dict = none ∧ o.data = .seq its n ∧ its.size ≤ sizeLine ∧ Vals xs its.toList
def SqT (K : PySem.W.Frag) (H : Hp) (a : Addr) (xs : List V) : Prop :=
  Rd H a (.tup xs) ∨
    ∃ (o : Obj) (its : Array Value) (n : Nat), K.lookup a = some o ∧ o.cls = .type "tuple" ∧ o.data = .seq its n ∧ its.size ≤ sizeLine ∧ Vals xs its.toList
def absV : Value → Option V
  | .none => some .non
  | .bool b => some (.bl b)
  | .int i _ => some (.int i)
  | .str x _ => some (.str x)
  | .bytes b _ => some (.byt b)
  | .float b _ => some (.flt b)
  | .ref a => some (.ref a)
  | .type n => some (.ty n)
  | _ => none
theorem RelV.abs {x : V} {u : Value} (r : RelV x u) : absV u = some x := by
  cases x with
  | non => cases r; rfl
  | bl _ => cases r; rfl
  | int _ => obtain ⟨t, rfl⟩ := r; rfl
  | str _ => obtain ⟨t, rfl⟩ := r; rfl
  | byt _ => obtain ⟨t, rfl⟩ := r; rfl
  | flt _ => obtain ⟨t, rfl⟩ := r; rfl
  | ref _ => cases r; rfl
  | ty _ => cases r; rfl
theorem RelV.inj {x y : V} {u : Value} (r : RelV x u) (q : RelV y u) : x = y := Option.some.inj (r.abs.symm.trans q.abs)
theorem Vals.inj : ∀ {xs ys : List V} {us : List Value}, Vals xs us → Vals ys us → xs = ys
  | _, _, _, .nil, .nil => rfl
  | _, _, _, .cons r t, .cons r' t' => by rw [r.inj r', Vals.inj t t']
section
variable {X : Cx} {pins : List (Addr × Obj)} {σ : St} {H : Hp} {s : Shared} {a : Addr} {xs ys : List V}
theorem SqL.of {K : PySem.W.Frag} (h : H a = some (.lst xs)) : SqL K H a xs := .inl (.inl h)
theorem SqT.of {K : PySem.W.Frag} (h : H a = some (.tup xs)) : SqT K H a xs := .inl (.inl h)
theorem Inv.list (I : Inv X pins σ H s) (h : SqL X.K H a xs) : ∃ its : List Value, Vals xs its ∧ PlainL s.heap a its.toArray ∧ xs.length ≤ sizeLine := by
  rcases h with h | ⟨o, its, n, hk, hc, hd, hs, hz, r⟩
  · obtain ⟨z, its, n, r, e⟩ := h.ok I.hok
    exact ⟨its, r, ⟨_, n, e, rfl, rfl, rfl⟩, z⟩
  · refine ⟨its.toList, r, ⟨o, n, I.kIn a o hk, hc, hd, by simpa using hs⟩, ?_⟩
    have e := r.length
    simp only [Array.length_toList] at e
    omega
theorem Inv.tuple (I : Inv X pins σ H s) (h : SqT X.K H a xs) : ∃ its : List Value, Vals xs its ∧ IsTup s.heap a its.toArray ∧ xs.length ≤ sizeLine := by
  rcases h with h | ⟨o, its, n, hk, hc, hs, hz, r⟩
  · obtain ⟨z, its, r, p⟩ := h.ok I.hok
    exact ⟨its, r, p.tup, z⟩
  · refine ⟨its.toList, r, ⟨o, I.kIn a o hk, hc, n, by simpa using hs⟩, ?_⟩
    have e := r.length
    simp only [Array.length_toList] at e
    omega
theorem Inv.list_inj (I : Inv X pins σ H s) (h : SqL X.K H a xs) (h' : SqL X.K H a ys) : xs = ys := by
  obtain ⟨its, r, ⟨o, n, e, _, _, d⟩, _⟩ := I.list h
  obtain ⟨its', r', ⟨o', n', e', _, _, d'⟩, _⟩ := I.list h'
  rw [e] at e'; cases e'
  rw [d] at d'
  injection d' with d1 _
  have : its = its' := by simpa using congrArg Array.toList d1
  subst this
  exact r.inj r'
theorem Inv.tuple_inj (I : Inv X pins σ H s) (h : SqT X.K H a xs) (h' : SqT X.K H a ys) : xs = ys := by
  obtain ⟨its, r, ⟨o, e, _, n, d⟩, _⟩ := I.tuple h
  obtain ⟨its', r', ⟨o', e', _, n', d'⟩, _⟩ := I.tuple h'
  rw [e] at e'; cases e'
  rw [d] at d'
  injection d' with d1 _
  have : its = its' := by simpa using congrArg Array.toList d1
  subst this
  exact r.inj r'
end
abbrev Cx.wish (X : Cx) (E : Value → Shared → Prop) : Cx := { X with xe := E }
abbrev Cx.nox (X : Cx) : Cx := X.wish fun _ _ => False
theorem Cx.Ok.wish {X : Cx} (ok : X.Ok) (E : Value → Shared → Prop) : (X.wish E).Ok :=
  ⟨ok.mod, ok.kind, ok.glob, ok.blt, ok.above, ok.inj, ok.has, ok.cab, ok.hd, ok.frames, ok.stk, ok.exf, ok.bs, ok.bsz, ok.noex, ok.exfs, ok.funs, ok.frf⟩
theorem Cx.Ok.unwish {X : Cx} {E : Value → Shared → Prop} (ok : (X.wish E).Ok) : X.Ok :=
  ⟨ok.mod, ok.kind, ok.glob, ok.blt, ok.above, ok.inj, ok.has, ok.cab, ok.hd, ok.frames, ok.stk, ok.exf, ok.bs, ok.bsz, ok.noex, ok.exfs, ok.funs, ok.frf⟩
section
variable {X : Cx} {pins : List (Addr × Obj)} {σ : St} {H : Hp} {s : Shared} {E : Value → Shared → Prop}
theorem Inv.wish (I : Inv X pins σ H s) (E : Value → Shared → Prop) : Inv (X.wish E) pins σ H s := ⟨I.ok.wish E, I.os, I.bare, I.base, I.loc, I.cell, I.free, I.freeC, I.pin, I.hok, I.len⟩
theorem Inv.unwish (I : Inv (X.wish E) pins σ H s) : Inv X pins σ H s := ⟨I.ok.unwish, I.os, I.bare, I.base, I.loc, I.cell, I.free, I.freeC, I.pin, I.hok, I.len⟩
theorem SP.unwish {D : Ends} {f : Flow} {s' : Shared} (h : SP (X.wish E) pins D f s') : SP X pins D f s' := by
  cases f with
  | next => obtain ⟨σ', H', I, q⟩ := h; exact ⟨σ', H', I.unwish, q⟩
  | brk => obtain ⟨σ', H', I, q⟩ := h; exact ⟨σ', H', I.unwish, q⟩
  | cont => obtain ⟨σ', H', I, q⟩ := h; exact ⟨σ', H', I.unwish, q⟩
  | ret u => obtain ⟨v, σ', H', I, r, q⟩ := h; exact ⟨v, σ', H', I.unwish, r, q⟩
theorem PSs.nox {st : List Stmt} {t : TS} (h : PSs X.nox st t) : PSs X st t := fun pins s σ H D I hw =>
  wpAny_mono (h pins s σ H D (I.wish _) hw) (fun _ _ q => q.unwish) fun _ _ z => False.elim z
end
section
variable {X : Cx} {st : Stmt} {rest : List Stmt} {t u : TS} {e : Expr} {te : TE} {pos : Pos}
def tNext : TS := fun D σ H => D.nx σ H
def tSeq (t u : TS) : TS := fun D σ H => t { D with nx := u D } σ H
theorem pss_nil : PSs X [] tNext := fun _ _ σ H _ I h => wpAny_execs_nil ⟨σ, H, I, h⟩
theorem pss_cons (h1 : PS X st t) (h2 : PSs X rest u) : PSs X (st :: rest) (tSeq t u) := by
  intro pins s σ H D I h
  refine wpAny_execs_cons (thn (h1 pins s σ H { D with nx := u D } I h) fun f s1 q => ?_)
  cases f with
  | next =>
    obtain ⟨σ', H', I', q⟩ := q
    exact h2 pins s1 σ' H' D I' q
  | ret v => exact q
  | brk => exact q
  | cont => exact q
theorem pss_one (h1 : PS X st t) : PSs X [st] t := by
  intro pins s σ H D I h
  refine wpAny_execs_cons (thn (h1 pins s σ H D I h) fun f s1 q => ?_)
  cases f with
  | next => exact wpAny_execs_nil q
  | ret v => exact q
  | brk => exact q
  | cont => exact q
def tBreak : TS := fun D σ H => D.bk σ H
def tCont : TS := fun D σ H => D.ct σ H
theorem Inv.quiet {pins : List (Addr × Obj)} {σ : St} {H : Hp} {s : Shared} (I : Inv X pins σ H s) : interactive X.env = false := by simp [interactive, I.ok.kind]
def tDrop (te : TE) : TS := fun D σ H => te σ H fun _ H1 => D.nx σ H1
theorem ps_expr (he : PE X e te) (hs : swapsWith e none pos.line X.env = pure false := by rfl) : PS X (.Expr e pos) (tDrop te) := by
  intro pins s σ H D I h
  exact wpAny_Expr_any (thn (he pins s σ H _ I h) fun v s1 ⟨x, H1, I1, r1, q1⟩ => ⟨σ, H1, I1, q1⟩) I.quiet hs
def tRet (te : TE) : TS := fun D σ H => te σ H D.rt
theorem ps_ret (he : PE X e te) : PS X (.Return (some e) pos) (tRet te) := by
  intro pins s σ H D I h
  exact wpAny_Return_some (thn (he pins s σ H _ I h) fun v s1 ⟨x, H1, I1, r1, q1⟩ => ⟨x, σ, H1, I1, r1, q1⟩)
def tRetN : TS := fun D _ H => D.rt .non H
def tIfS (c : TT) (t u : TS) : TS := fun D σ H => c σ H fun b H1 => if b = true then t D σ H1 else u D σ H1
theorem ps_if {c : Expr} {a b : List Stmt} {tc : TT} (hc : PT X c tc) (ha : PSs X a t) (hb : PSs X b u) : PS X (.If c a b pos) (tIfS tc t u) := by
  intro pins s σ H D I h
  refine wpAny_If (thn (hc pins s σ H _ I h) fun d s1 ⟨H1, I1, q1⟩ => ?_)
  cases d with
  | true => exact ha pins s1 σ H1 D I1 q1
  | false => exact hb pins s1 σ H1 D I1 q1
def tNever : TS := fun _ _ _ => False
end
abbrev TG := V → St → Hp → (St → Hp → Prop) → Prop
abbrev TGs := List V → St → Hp → (St → Hp → Prop) → Prop
def PG (X : Cx) (target : Expr) (t : TG) : Prop :=
  ∀ (pins : List (Addr × Obj)) (s : Shared) (σ : St) (H : Hp) (v : V) (u : Value) (Q : St → Hp → Prop), Inv X pins σ H s → RelV v u → t v σ H Q →
    wpAny (model X.prog X.w) X.A (assign target X.env u) (fun _ s' => ∃ σ' H', Inv X pins σ' H' s' ∧ Q σ' H') X.xe s
def PGs (X : Cx) (ts : List Expr) (t : TGs) : Prop :=
  ∀ (pins : List (Addr × Obj)) (s : Shared) (σ : St) (H : Hp) (vs : List V) (us : List Value) (Q : St → Hp → Prop), Inv X pins σ H s → Vals vs us → t vs σ H Q →
    wpAny (model X.prog X.w) X.A (assignInOrder ((assignEach ts X.env).map (·.2)) us) (fun _ s' => ∃ σ' H', Inv X pins σ' H' s' ∧ Q σ' H') X.xe s
abbrev TSet := V → V → V → Hp → (Hp → Prop) → Prop
def PSet (X : Cx) (t : TSet) : Prop :=
  ∀ (pins : List (Addr × Obj)) (s : Shared) (σ : St) (H : Hp) (o i v : V) (ov iv u : Value) (Q : Hp → Prop), Inv X pins σ H s → RelV o ov → RelV i iv → RelV v u → t o i v H Q →
    wpAny (model X.prog X.w) X.A (setItem ov iv u) (fun _ s' => ∃ H', Inv X pins σ H' s' ∧ Q H') X.xe s
abbrev TIp := V → V → Hp → VK → Prop
def PIp (X : Cx) (op : Operator) (t : TIp) : Prop :=
  ∀ (pins : List (Addr × Obj)) (s : Shared) (σ : St) (H : Hp) (x y : V) (v u : Value) (Q : VK), Inv X pins σ H s → RelV x v → RelV y u → t x y H Q →
    wpAny (model X.prog X.w) X.A (inplaceOp op v u) (EP X pins σ Q) X.xe s
section
variable {X : Cx} {pos : Pos}
def gName (i : Nat) : TG := fun v σ H Q => Q (σ.set i (some v)) H
theorem pg_name {i : Nat} {x : Str} (hN : X.N.Nodup) (hi : X.N[i]? = some x) (hx : Loc X.env.scope x) (hf : X.fn x = true ∨ X.env.scope.names.lookup x = some .local := by first | exact .inl rfl | exact .inr rfl | assumption) : PG X (.Name x pos) (gName i) := by
  intro pins s σ H v u Q I r h
  exact wpAny_assign_Name (store_ok I hN hi hx r (fun s' I' => ⟨_, H, I', h⟩) hf)
def gNil : TGs := fun vs σ H Q => vs = [] ∧ Q σ H
def gCons (t : TG) (u : TGs) : TGs := fun vs σ H Q => ∃ v r, vs = v :: r ∧ t v σ H fun σ' H' => u r σ' H' Q
theorem pgs_nil : PGs X [] gNil := by
  intro pins s σ H vs us Q I r h
  obtain ⟨e, h⟩ := h
  subst e
  cases r
  exact assignInOrder_nil ⟨σ, H, I, h⟩
theorem pgs_cons {e : Expr} {es : List Expr} {t : TG} {u : TGs} (h1 : PG X e t) (h2 : PGs X es u)
    (hs : (assignEach (e :: es) X.env).map (·.2) = assign e X.env :: (assignEach es X.env).map (·.2) := by rfl) : PGs X (e :: es) (gCons t u) := by
  intro pins s σ H vs us Q I r h
  obtain ⟨v, vr, e1, h⟩ := h
  subst e1
  cases r with
  | cons r rr =>
    rw [hs]
    refine assignInOrder_cons (thn (h1 pins s σ H _ _ _ I r h) fun _ s1 ⟨σ1, H1, I1, q1⟩ => ?_)
    exact h2 pins s1 σ1 H1 _ _ Q I1 rr q1
def gTup (K : PySem.W.Frag) (n : Nat) (t : TGs) : TG := fun v σ H Q => ∃ a xs, v = .ref a ∧ SqT K H a xs ∧ xs.length = n ∧ t xs σ H Q
theorem pg_tup {es : List Expr} {k : Nat} {t : TGs} {n : Nat} (hc : X.calm = true) (h : PGs X es t)
    (hn : (assignEach es X.env).length = n := by rfl) (hst : (assignEach es X.env).findIdx? (·.1) = none := by rfl) : PG X (.Tuple es k pos) (gTup X.K n t) := by
  intro pins s σ H v u Q I r hw
  obtain ⟨a, xs, e1, hq, hl, hw⟩ := hw
  subst e1
  cases r
  obtain ⟨its, rv, ht, hz⟩ := I.tuple hq
  refine assign_Tuple_tuple (I.ok.hd hc) ht (by simp [hn, ← hl, rv.length]) hst fun h' hx => ?_
  have I1 : Inv X pins σ H { s with heap := h' } := I.kept (t' := s.toks) fun b o e => hx b o (Nat.ne_of_lt (Heap.lt_size e)) e
  exact h pins _ σ H xs _ Q I1 (by simpa using rv) hw
def gSub (to ti : TE) (t : TSet) : TG := fun v σ H Q => to σ H fun o H1 => ti σ H1 fun i H2 => t o i v H2 fun H3 => Q σ H3
theorem pg_sub {o i : Expr} {to ti : TE} {t : TSet} (ho : PE X o to) (hi : PE X i ti) (hs : PSet X t)
    (ha : ∀ v, assign (.Subscript o i pos) X.env v = (do
      let ov ← holding [v] (eval o X.env)
      let iv ← holding [v, ov] (eval i X.env)
      standAt pos
      holding [v, ov, iv] (setItem ov iv v)
      release [v, ov, iv] []) := by intro _; rfl) : PG X (.Subscript o i pos) (gSub to ti t) := by
  intro pins s σ H v u Q I r h
  rw [ha]
  refine wpAny_bind (wpAny_holding (thn (ho pins s σ H _ I h) fun ov s1 ⟨x, H1, I1, r1, q1⟩ => ?_))
  refine wpAny_bind (wpAny_holding (thn (hi pins s1 σ H1 _ I1 q1) fun iv s2 ⟨y, H2, I2, r2, q2⟩ => ?_))
  refine wpAny_bind (wpAny_standAt (wpAny_bind (wpAny_holding (thn (hs pins s2 σ H2 x y v ov iv u _ I2 r1 r2 r q2) fun _ s3 ⟨H3, I3, q3⟩ => ?_))))
  exact wpAny_release ⟨σ, H3, I3, q3⟩
def tAsg (te : TE) (g : TG) : TS := fun D σ H => te σ H fun x H1 => g x σ H1 D.nx
theorem ps_asg {tg e : Expr} {te : TE} {g : TG} (he : PE X e te) (hg : PG X tg g) (hs : swapsWithSole [tg] e pos.line X.env = pure false := by rfl) (hw : swappedStores [tg] e X.env = pure none := by rfl)
    (h1 : (assignEach [tg] X.env).map (·.2) = [assign tg X.env] := by rfl) : PS X (.Assign [tg] e pos) (tAsg te g) := by
  intro pins s σ H D I h
  refine wpAny_Assign_stores (thn (he pins s σ H _ I h) fun v s1 ⟨x, H1, I1, r1, q1⟩ => ?_) hs hw
  rw [h1]
  exact thn (hg pins s1 σ H1 x v _ I1 r1 q1) fun _ s2 q => q
theorem ps_set {i : Nat} {x : Str} {e : Expr} {te : TE} {pos' : Pos} (hN : X.N.Nodup) (hi : X.N[i]? = some x) (hx : Loc X.env.scope x) (he : PE X e te) (hs : swapsWith e (some (.Name x pos')) pos.line X.env = pure false := by rfl) (hf : X.fn x = true ∨ X.env.scope.names.lookup x = some .local := by first | exact .inl rfl | exact .inr rfl | assumption) :
    PS X (.Assign [.Name x pos'] e pos) (tAsg te (gName i)) := by
  intro pins s σ H D I h
  refine wpAny_Assign_Name (thn (he pins s σ H _ I h) fun v s1 ⟨y, H1, I1, r1, q1⟩ => ?_) hs
  exact store_ok I1 hN hi hx r1 (fun s2 I2 => ⟨_, H1, I2, q1⟩) hf
def tPar (i j : Nat) (ta : TA) : TS := fun D σ H => ta σ H fun vs H1 => ∃ v w, vs = [v, w] ∧ D.nx ((σ.set i (some v)).set j (some w)) H1
def tAug (i : Nat) (te : TE) (ti : TIp) : TS := fun D σ H => ∃ x, σ[i]? = some (some x) ∧ te σ H fun y H1 => ti x y H1 fun z H2 => D.nx (σ.set i (some z)) H2
theorem ps_aug {i : Nat} {x : Str} {e : Expr} {te : TE} {op : Operator} {ti : TIp} {pos' : Pos} (hN : X.N.Nodup) (hi : X.N[i]? = some x) (hx : Loc X.env.scope x) (he : PE X e te) (ho : PIp X op ti) (hf : X.fn x = true ∨ X.env.scope.names.lookup x = some .local := by first | exact .inl rfl | exact .inr rfl | assumption) :
    PS X (.AugAssign (.Name x pos') op e pos) (tAug i te ti) := by
  intro pins s σ H D I h
  obtain ⟨v, e1, h⟩ := h
  obtain ⟨m, hn, hl⟩ := I.loc
  have vis : Vis X.env.scope x := by rcases hx with k | k; exact .inl k; exact .inr (.inl k)
  obtain ⟨u, r, l⟩ := hl i x v hi e1 vis
  refine wpAny_AugAssign_Name ?_
  have go : wpAny (model X.prog X.w) X.A (eval e X.env) (fun w s₂ => wpAny (model X.prog X.w) X.A (inplaceOp op u w) (fun r s₃ => wpAny (model X.prog X.w) X.A (storeName X.env x r) (fun _ => SP X pins D .next) X.xe s₃) X.xe s₂) X.xe s := by
    refine thn (he pins s σ H _ I h) fun w s1 ⟨y, H1, I1, r1, q1⟩ => ?_
    refine thn (ho pins s1 σ H1 v y u w _ I1 r r1 q1) fun z s2 ⟨zv, H2, I2, r2, q2⟩ => ?_
    exact store_ok I2 hN hi hx r2 (fun s3 I3 => ⟨_, H2, I3, q2⟩) hf
  rcases l with ⟨hk, hm⟩ | ⟨hk, c, hc, hcell⟩
  · exact wpAny_loadName_local I.ok.kind hk hn hm go
  · rcases hk with hk | hk
    · exact wpAny_loadName_cell I.ok.kind hk hc hcell go
    · rcases hx with k | k
      · have : X.env.scope.names.lookup x = some .free := hk
        rw [k] at this; cases this
      · have : X.env.scope.names.lookup x = some .free := hk
        rw [k] at this; cases this
def tAugS (to ti te : TE) (tget : V → V → Hp → VK → Prop) (tip : TIp) (tset : TSet) : TS := fun D σ H => to σ H fun o H1 => ti σ H1 fun i H2 => tget o i H2 fun x H3 => te σ H3 fun y H4 => tip x y H4 fun z H5 => tset o i z H5 fun H6 => D.nx σ H6
def PGet (X : Cx) (t : V → V → Hp → VK → Prop) : Prop :=
  ∀ (pins : List (Addr × Obj)) (s : Shared) (σ : St) (H : Hp) (o i : V) (ov iv : Value) (Q : VK), Inv X pins σ H s → RelV o ov → RelV i iv → t o i H Q →
    wpAny (model X.prog X.w) X.A (getItem ov iv) (EP X pins σ Q) X.xe s
def ipI (f : Int → Int → Int) : TIp := fun x y H Q => ∃ i j, x = .int i ∧ y = .int j ∧ Q (.int (f i j)) H
theorem ip_add : PIp X .Add (ipI fun i j => i + j) := by
  intro pins s σ H x y v u Q I r1 r2 h
  obtain ⟨i, j, e1, e2, q⟩ := h
  subst e1; subst e2
  obtain ⟨t, rfl⟩ := r1
  obtain ⟨t', rfl⟩ := r2
  exact iadd_int ⟨.int _, H, I.tok _, ⟨_, rfl⟩, q⟩
theorem ip_sub : PIp X .Sub (ipI fun i j => i - j) := by
  intro pins s σ H x y v u Q I r1 r2 h
  obtain ⟨i, j, e1, e2, q⟩ := h
  subst e1; subst e2
  obtain ⟨t, rfl⟩ := r1
  obtain ⟨t', rfl⟩ := r2
  exact isub_int ⟨.int _, H, I.tok _, ⟨_, rfl⟩, q⟩
end
section
variable {X : Cx} {pos : Pos}
def tWhile (c : TT) (tb : TS) : TS := fun D σ H => ∃ W : Nat → St → Hp → Prop, (∃ m, W m σ H) ∧ ∀ m σ H, W m σ H →
  c σ H fun b H1 => if b = true then ∃ N : St → Hp → Prop, (∀ σ' H', N σ' H' → ∃ m', m' < m ∧ W m' σ' H') ∧ tb { D with nx := N, ct := N, bk := D.nx } σ H1 else D.nx σ H1
theorem ps_while {c : Expr} {body : List Stmt} {tc : TT} {tb : TS} (hp : PassesOwn (model X.prog X.w) X.A X.env X.xe) (hc : PT X c tc) (hb : PSs X body tb) : PS X (.While c body [] pos) (tWhile tc tb) := by
  intro pins s σ H D I h
  obtain ⟨W, ⟨m0, w0⟩, turn⟩ := h
  refine wpAny_While (codeAny_whileLoop (fun n s' => ∃ σ' H', Inv X pins σ' H' s' ∧ W n σ' H') ?_ m0 ⟨σ, H, I, w0⟩)
  rintro n s1 ⟨σ1, H1, I1, w1⟩
  refine wpAny_passesOwn hp (thn (hc pins s1 σ1 H1 _ I1 (turn n σ1 H1 w1)) fun b s2 ⟨H2, I2, q2⟩ => ?_)
  cases b with
  | true =>
    obtain ⟨N, hN, q2⟩ := q2
    rw [if_pos rfl]
    refine wpAny_passesOwn hp (thn (hb pins s2 σ1 H2 _ I2 q2) fun f s3 q3 => ?_)
    cases f with
    | next =>
      obtain ⟨σ3, H3, I3, n3⟩ := q3
      obtain ⟨m', hm, w3⟩ := hN σ3 H3 n3
      exact ⟨m', hm, σ3, H3, I3, w3⟩
    | cont =>
      obtain ⟨σ3, H3, I3, n3⟩ := q3
      obtain ⟨m', hm, w3⟩ := hN σ3 H3 n3
      exact ⟨m', hm, σ3, H3, I3, w3⟩
    | brk => exact q3
    | ret v => exact q3
  | false =>
    rw [if_neg Bool.false_ne_true]
    exact wpAny_execs_nil ⟨σ1, H2, I2, q2⟩
end
structure It where
  go : Nat → Hp → Prop
  yld : Nat → Hp → V → Hp → Prop
  stop : Nat → Hp → Prop
def FpOk (X : Cx) (pins : List (Addr × Obj)) (H : Hp) (b : Addr) : Prop :=
  H b = none ∧ b ≠ X.env.locals ∧ b ∉ X.fs ∧ (b ∈ X.ex ∨ X.s₀.heap.objs.size ≤ b) ∧ (∀ x c, X.env.cells.lookup x = some c → c ≠ b) ∧ ∀ p ∈ X.pn ++ pins, p.1 ≠ b
theorem Inv.fpOk {X : Cx} {pins : List (Addr × Obj)} {σ : St} {H H' : Hp} {s : Shared} {b : Addr} (I : Inv X pins σ H s) (hb : s.heap.objs.size ≤ b) (hn : H' b = none) : FpOk X pins H' b := by
  refine ⟨hn, Nat.ne_of_gt (Nat.lt_of_lt_of_le I.lt hb), I.nofs hb, .inr (Nat.le_trans I.sz hb), fun x c e z => ?_, fun p hp z => ?_⟩
  · obtain ⟨v, q⟩ := I.cell x c e
    exact absurd (Nat.lt_of_lt_of_le q.lt (by rw [z]; exact hb)) (Nat.lt_irrefl _)
  · exact absurd (Nat.lt_of_lt_of_le (Heap.lt_size (I.pin p hp).1) (by rw [z]; exact hb)) (Nat.lt_irrefl _)
structure Turn (P : Program) (w : World) (K : PySem.W.Frag) (tg : Expr) (J : It) (fp : List Addr) (it : Addr) (tn : Nat → Heap → Prop) : Prop where
  mem : it ∈ fp
  obj : ∀ i h, tn i h → ∀ b ∈ fp, ∃ o, h.get? b = some o ∧ ∀ v, o.data ≠ .cell v
  keep : ∀ i h h', tn i h → (∀ b ∈ fp, ∀ o, h.get? b = some o → h'.get? b = some o) → tn i h'
  item : ∀ (X : Cx), X.prog = P → X.w = w → X.K = K → X.calm = true → ∀ (i : Nat) (pins : List (Addr × Obj)) (s : Shared) (σ : St) (H : Hp) (E : Value → Shared → Prop), Inv X pins σ H s → (∀ b ∈ fp, FpOk X pins H b) → tn i s.heap → J.go i H →
    wpAny (model P w) X.A (pyNext (.ref it)) (fun r s1 => ∃ u, r = some u ∧
      wpAny (model P w) X.A (letOwnedTupleGo tg (.ref it) u) (fun _ s2 => ∃ x H', Inv X pins σ H' s2 ∧ RelV x u ∧ J.yld i H x H' ∧ tn (i + 1) s2.heap ∧ ∀ b ∈ fp, H' b = none) E s1) E s
  done : ∀ (X : Cx), X.prog = P → X.w = w → X.K = K → X.calm = true → ∀ (i : Nat) (pins : List (Addr × Obj)) (s : Shared) (σ : St) (H : Hp) (E : Value → Shared → Prop), Inv X pins σ H s → (∀ b ∈ fp, FpOk X pins H b) → tn i s.heap → J.stop i H →
    wpAny (model P w) X.A (pyNext (.ref it)) (fun r s1 => r = none ∧ Inv X pins σ H s1) E s
  self : ∀ (A : Around) (i : Nat) (s : Shared) (Q : Value → Shared → Prop) (E : Value → Shared → Prop), tn i s.heap → Q (.ref it) s → wpAny (model P w) A (pyIter (.ref it)) Q E s
abbrev TI := St → Hp → (It → Hp → Prop) → Prop
def PIE (X : Cx) (pins : List (Addr × Obj)) (σ : St) (tg : Expr) (R : It → Hp → Prop) (itv : Value) (s2 : Shared) : Prop :=
  ∃ (it : Addr) (fp : List Addr) (tn : Nat → Heap → Prop) (J : It) (H' : Hp), itv = .ref it ∧ Inv X pins σ H' s2 ∧ Turn X.prog X.w X.K tg J fp it tn ∧ tn 0 s2.heap ∧ (∀ b ∈ fp, FpOk X pins H' b) ∧ R J H'
def PI (X : Cx) (tg iter : Expr) (wi : TI) : Prop :=
  ∀ (pins : List (Addr × Obj)) (s : Shared) (σ : St) (H : Hp) (R : It → Hp → Prop), Inv X pins σ H s → wi σ H R →
    wpAny (model X.prog X.w) X.A (eval iter X.env) (fun v s1 => wpAny (model X.prog X.w) X.A (pyIter v) (PIE X pins σ tg R) X.xe s1) X.xe s
theorem go_of {M : Model} {A : Around} {E : Value → Shared → Prop} {s : Shared} {tg : Expr} {it : Addr} {u : Value} {o : Obj} {n : String} {vs : Array Value} {Q : Unit → Shared → Prop} (ho : s.heap.get? it = some o) (hc : o.cls = .type n) (hd : o.data = .fields vs)
    (hn : ["enumerate", "zip", "dict_itemiterator", "dict_reverseitemiterator", "odict_iterator", "itertools.zip_longest", "itertools.pairwise"].contains n = false) (hQ : Q () s) : wpAny M A (letOwnedTupleGo tg (.ref it) u) Q E s := by
  unfold letOwnedTupleGo
  cases tg <;> first
    | exact wpAny_pure hQ
    | (cases u <;> first
        | exact wpAny_pure hQ
        | (refine wpAny_bind (wpAny_load ho ?_)
           rw [hc, hd]
           show wpAny M A (if (["enumerate", "zip", "dict_itemiterator", "dict_reverseitemiterator", "odict_iterator", "itertools.zip_longest", "itertools.pairwise"].contains n && vs[0]? == some (rawInt _)) = true then _ else _) Q E s
           rw [if_neg (by intro h; rw [hn, Bool.false_and] at h; cases h)]
           exact wpAny_pure hQ))
def Itl (K : PySem.W.Frag) (a : Addr) : It :=
  ⟨fun i H => ∃ xs x, SqL K H a xs ∧ xs[i]? = some x, fun i H x H' => H' = H ∧ ∀ xs, SqL K H a xs → xs[i]? = some x, fun i H => ∃ xs, SqL K H a xs ∧ xs.length ≤ i⟩
def Itt (K : PySem.W.Frag) (a : Addr) : It :=
  ⟨fun i H => ∃ xs x, SqT K H a xs ∧ xs[i]? = some x, fun i H x H' => H' = H ∧ ∀ xs, SqT K H a xs → xs[i]? = some x, fun i H => ∃ xs, SqT K H a xs ∧ xs.length ≤ i⟩
def Itr (lo : Int) (n : Nat) : It := ⟨fun i _ => i < n, fun i H x H' => H' = H ∧ x = .int (lo + i), fun i _ => n ≤ i⟩
theorem turn_list {P : Program} {w : World} {K : PySem.W.Frag} {tg : Expr} (a it : Addr) : Turn P w K tg (Itl K a) [it] it (fun i h => h.IsListIter it a i) where
  mem := by simp
  obj := fun i h st b hb => by
    have e : b = it := by simpa using hb
    subst e
    obtain ⟨o, e, c, d⟩ := st
    exact ⟨o, e, fun v z => by rw [d] at z; cases z⟩
  keep := fun i h h' st k => st.at fun o e => k it (by simp) o e
  item := by
    intro X hP hw hK hc i pins s σ H E I hf st hg
    subst hP hw hK
    obtain ⟨xs, x, hq, hx⟩ := hg
    obtain ⟨its, rv, p, hz⟩ := I.list hq
    obtain ⟨u, hu, ru⟩ := rv.get hx
    obtain ⟨f0, f1, f2, f3, f4, f5⟩ := hf it (by simp)
    refine wpAny_pyNext_list_item st p.isList (x := u) (by simpa using hu) fun h' st' sb => ?_
    have I1 : Inv X pins σ H { s with heap := h' } := I.turned (t' := s.toks) (fun b o hb e => (sb.2 b hb).trans e) f0 f1 f3 f4 f5
    obtain ⟨o, e, c, d⟩ := id st'
    exact ⟨u, rfl, go_of (s := { s with heap := h' }) e c d (by decide) ⟨x, H, I1, ru, ⟨rfl, fun ys hy => by rw [I.list_inj hy hq]; exact hx⟩, st', fun b hb => (hf b hb).1⟩⟩
  done := by
    intro X hP hw hK hc i pins s σ H E I hf st hg
    subst hP hw hK
    obtain ⟨xs, hq, hx⟩ := hg
    obtain ⟨its, rv, p, hz⟩ := I.list hq
    obtain ⟨f0, f1, f2, f3, f4, f5⟩ := hf it (by simp)
    have hl := rv.length
    exact wpAny_pyNext_list_end (I.ok.hd hc) st p.isList (by simp; omega) fun h' eb => ⟨rfl, I.turned (t' := s.toks) (fun b o hb e => eb b o hb e) f0 f1 f3 f4 f5⟩
  self := fun _ _ _ _ _ st h => wpAny_pyIter_listiter st h
theorem turn_tuple {P : Program} {w : World} {K : PySem.W.Frag} {tg : Expr} (a it : Addr) : Turn P w K tg (Itt K a) [it] it (fun i h => h.IsTupleIter it a i) where
  mem := by simp
  obj := fun i h st b hb => by
    have e : b = it := by simpa using hb
    subst e
    obtain ⟨o, e, c, d⟩ := st
    exact ⟨o, e, fun v z => by rw [d] at z; cases z⟩
  keep := fun i h h' st k => st.at fun o e => k it (by simp) o e
  item := by
    intro X hP hw hK hc i pins s σ H E I hf st hg
    subst hP hw hK
    obtain ⟨xs, x, hq, hx⟩ := hg
    obtain ⟨its, rv, p, hz⟩ := I.tuple hq
    obtain ⟨u, hu, ru⟩ := rv.get hx
    obtain ⟨f0, f1, f2, f3, f4, f5⟩ := hf it (by simp)
    refine wpAny_pyNext_tuple_item st (show s.heap.IsTuple a its.toArray from p) (x := u) (by simpa using hu) fun h' st' sb => ?_
    have I1 : Inv X pins σ H { s with heap := h' } := I.turned (t' := s.toks) (fun b o hb e => (sb.2 b hb).trans e) f0 f1 f3 f4 f5
    obtain ⟨o, e, c, d⟩ := id st'
    exact ⟨u, rfl, go_of (s := { s with heap := h' }) e c d (by decide) ⟨x, H, I1, ru, ⟨rfl, fun ys hy => by rw [I.tuple_inj hy hq]; exact hx⟩, st', fun b hb => (hf b hb).1⟩⟩
  done := by
    intro X hP hw hK hc i pins s σ H E I hf st hg
    subst hP hw hK
    obtain ⟨xs, hq, hx⟩ := hg
    obtain ⟨its, rv, p, hz⟩ := I.tuple hq
    obtain ⟨f0, f1, f2, f3, f4, f5⟩ := hf it (by simp)
    have hl := rv.length
    exact wpAny_pyNext_tuple_end (I.ok.hd hc) st (show s.heap.IsTuple a its.toArray from p) (by simp; omega) fun h' eb => ⟨rfl, I.turned (t' := s.toks) (fun b o hb e => eb b o hb e) f0 f1 f3 f4 f5⟩
  self := fun _ _ _ _ _ st h => wpAny_pyIter_tupleiter st h
theorem turn_range {P : Program} {w : World} {K : PySem.W.Frag} {tg : Expr} (it : Addr) (lo : Int) (n : Nat) : Turn P w K tg (Itr lo n) [it] it (fun i h => IsRangeIter h it (lo + (i : Nat) * 1) ((n : Int) - (i : Nat)) 1) where
  mem := by simp
  obj := fun i h st b hb => by
    have e : b = it := by simpa using hb
    subst e
    exact ⟨_, st, fun v z => by
      have z' : Data.fields _ = Data.cell v := z
      cases z'⟩
  keep := fun i h h' st k => k it (by simp) _ st
  item := by
    intro X hP hw hK hc i pins s σ H E I hf st hg
    subst hP hw hK
    obtain ⟨f0, f1, f2, f3, f4, f5⟩ := hf it (by simp)
    have W := Walks.range (prog := X.prog) (w := X.w) (I.ok.hd hc) it lo 1 n
    refine W.item i s _ _ hg st fun v h' tk hv st' kk => ?_
    obtain ⟨t, rfl⟩ := hv
    have I1 : Inv X pins σ H { s with heap := h', toks := tk } := I.turned (fun b o hb e => kk b o (by simpa using hb) e) f0 f1 f3 f4 f5
    refine ⟨_, rfl, go_of (s := { s with heap := h', toks := tk }) (n := "range_iterator") st' rfl rfl (by decide) ⟨.int (lo + i), H, I1, ⟨t, ?_⟩, ⟨rfl, rfl⟩, st', fun b hb => (hf b hb).1⟩⟩
    rw [Int.mul_one]
  done := by
    intro X hP hw hK hc i pins s σ H E I hf st hg
    subst hP hw hK
    obtain ⟨f0, f1, f2, f3, f4, f5⟩ := hf it (by simp)
    exact wpAny_pyNext_range_end (I.ok.hd hc) st (by have : n ≤ i := hg; omega) fun h' eb => ⟨rfl, I.turned (t' := s.toks) (fun b o hb e => eb b o hb e) f0 f1 f3 f4 f5⟩
  self := fun _ _ _ _ _ st h => wpAny_pyIter_rangeiter st h
end L2
namespace L2
open PySem PySem.Spec PyProof.Rows
section
variable {X : Cx} {tg : Expr}
def iList (K : PySem.W.Frag) (tl : TE) : TI := fun σ H R => tl σ H fun x H1 => ∃ a, x = .ref a ∧ (∃ xs, SqL K H1 a xs) ∧ R (Itl K a) H1
def iTup (K : PySem.W.Frag) (tl : TE) : TI := fun σ H R => tl σ H fun x H1 => ∃ a, x = .ref a ∧ (∃ xs, SqT K H1 a xs) ∧ R (Itt K a) H1
theorem pi_list {l : Expr} {tl : TE} (hl : PE X l tl) : PI X tg l (iList X.K tl) := by
  intro pins s σ H R I h
  refine thn (hl pins s σ H _ I h) fun v s1 ⟨x, H1, I1, r1, q1⟩ => ?_
  obtain ⟨a, e, ⟨xs, hq⟩, q⟩ := q1
  subst e
  cases r1
  obtain ⟨its, rv, p, hz⟩ := I1.list hq
  refine wpAny_pyIter_list p.isList ?_
  refine ⟨s1.heap.objs.size, [s1.heap.objs.size], _, _, H1, rfl, I1.kept (t' := s1.toks) fun b o e => Heap.get?_push_of_some _ e, turn_list a _, ⟨_, Heap.get?_push_size _ rfl, rfl, rfl⟩, fun b hb => ?_, q⟩
  have e : b = s1.heap.objs.size := by simpa using hb
  subst e
  exact I1.fpOk (Nat.le_refl _) (I1.hok.fresh (Nat.le_refl _))
theorem pi_tup {l : Expr} {tl : TE} (hl : PE X l tl) : PI X tg l (iTup X.K tl) := by
  intro pins s σ H R I h
  refine thn (hl pins s σ H _ I h) fun v s1 ⟨x, H1, I1, r1, q1⟩ => ?_
  obtain ⟨a, e, ⟨xs, hq⟩, q⟩ := q1
  subst e
  cases r1
  obtain ⟨its, rv, p, hz⟩ := I1.tuple hq
  refine wpAny_pyIter_tuple (show s1.heap.IsTuple a its.toArray from p) ?_
  refine ⟨s1.heap.objs.size, [s1.heap.objs.size], _, _, H1, rfl, I1.kept (t' := s1.toks) fun b o e => Heap.get?_push_of_some _ e, turn_tuple a _, ⟨_, Heap.get?_push_size _ rfl, rfl, rfl⟩, fun b hb => ?_, q⟩
  have e : b = s1.heap.objs.size := by simpa using hb
  subst e
  exact I1.fpOk (Nat.le_refl _) (I1.hok.fresh (Nat.le_refl _))
theorem range_it {pins : List (Addr × Obj)} {σ : St} {H : Hp} {s : Shared} {R : It → Hp → Prop} {E : Value → Shared → Prop} {lo hi : Int} {t u v : Tok} {tk : Nat} (I : Inv X pins σ H s) (h1 : -(2 ^ 62) ≤ lo) (h2 : lo < 2 ^ 62) (h3 : -(2 ^ 62) ≤ hi) (h4 : hi < 2 ^ 62)
    (q : R (Itr lo (hi - lo).toNat) H) : wpAny (model X.prog X.w) X.A (pyIter (.ref s.heap.objs.size)) (PIE X pins σ tg R) E { s with heap := s.heap.push { cls := .type "range", data := .fields #[.int lo t, .int hi u, .int 1 v] }, toks := tk } := by
  refine wpAny_pyIter_range (IsRange.new ..) (small_one h1 h2 h3 h4) ?_
  have I1 : Inv X pins σ H { s with heap := s.heap.push { cls := .type "range", data := .fields #[.int lo t, .int hi u, .int 1 v] }, toks := tk } := I.kept fun b o e => Heap.get?_push_of_some _ e
  refine ⟨(s.heap.push { cls := .type "range", data := .fields #[.int lo t, .int hi u, .int 1 v] }).objs.size, [(s.heap.push { cls := .type "range", data := .fields #[.int lo t, .int hi u, .int 1 v] }).objs.size], _, _, H, rfl,
    I1.kept (t' := tk) fun b o e => Heap.get?_push_of_some _ e, turn_range _ lo (hi - lo).toNat, ?_, fun b hb => ?_, q⟩
  · have e1 : lo + ((0 : Nat) : Int) * 1 = lo := by simp
    have e2 : (((hi - lo).toNat : Nat) : Int) - ((0 : Nat) : Int) = Builtin.Range.rangeSize lo hi 1 := by rw [rangeSize_one]; split <;> omega
    show IsRangeIter _ _ (lo + ((0 : Nat) : Int) * 1) ((((hi - lo).toNat : Nat) : Int) - ((0 : Nat) : Int)) 1
    rw [e1, e2]
    exact Heap.get?_push_size _ rfl
  · have e : b = (s.heap.push { cls := .type "range", data := .fields #[.int lo t, .int hi u, .int 1 v] }).objs.size := by simpa using hb
    subst e
    exact I1.fpOk (Nat.le_refl _) (I1.hok.fresh (Nat.le_refl _))
def iRng1 (ta : TA) : TI := fun σ H R => ta σ H fun vs H1 => ∃ j : Int, vs = [.int j] ∧ -(2 ^ 62) ≤ j ∧ j < 2 ^ 62 ∧ R (Itr 0 j.toNat) H1
def iRng2 (ta : TA) : TI := fun σ H R => ta σ H fun vs H1 => ∃ i j : Int, vs = [.int i, .int j] ∧ (-(2 ^ 62) ≤ i ∧ i < 2 ^ 62 ∧ -(2 ^ 62) ≤ j ∧ j < 2 ^ 62) ∧ R (Itr i (j - i).toNat) H1
theorem pi_range1 {a : Expr} {ta : TA} {p pos : Pos} (hg : Gl X "range") (hm : X.mg "range" = none) (ha : PA X [a] ta) (hs : starEach [a] X.env = [(false, eval a X.env)] := by rfl) : PI X tg (.Call (.Name "range" p) [a] [] pos) (iRng1 ta) := by
  intro pins s σ H R I h
  refine Call_ (ld_blt I hg hm boot_range (PyProof.Rows.callWith_type1 (thn (ha pos pins s σ H _ I h) fun us s1 ⟨vs, H1, I1, r1, q1⟩ => ?_) hs rfl))
  obtain ⟨j, e, q1, q2, q⟩ := q1
  subst e
  cases r1 with
  | cons r rr =>
    cases rr
    obtain ⟨t, rfl⟩ := r
    exact call_range_1 (range_it I1 (by omega) (by omega) q1 q2 (by simpa using q))
theorem pi_range2 {a b : Expr} {ta : TA} {p pos : Pos} (hg : Gl X "range") (hm : X.mg "range" = none) (ha : PA X [a, b] ta) (hs : starEach [a, b] X.env = [(false, eval a X.env), (false, eval b X.env)] := by rfl) (hs2 : starEach [b] X.env = [(false, eval b X.env)] := by rfl) :
    PI X tg (.Call (.Name "range" p) [a, b] [] pos) (iRng2 ta) := by
  intro pins s σ H R I h
  refine Call_ (ld_blt I hg hm boot_range (PyProof.Rows.callWith_type1 (thn (ha pos pins s σ H _ I h) fun us s1 ⟨vs, H1, I1, r1, q1⟩ => ?_) (by rw [hs, hs2]) (by rw [hs2]; rfl)))
  obtain ⟨i, j, e, ⟨q1, q2, q3, q4⟩, q⟩ := q1
  subst e
  cases r1 with
  | cons r rr =>
    cases rr with
    | cons r' rr =>
      cases rr
      obtain ⟨t, rfl⟩ := r
      obtain ⟨t', rfl⟩ := r'
      exact call_range_2 (range_it I1 q1 q2 q3 q4 q)
def tFor (wi : TI) (g : TG) (tb : TS) : TS := fun D σ H => wi σ H fun J H1 => ∃ W : Nat → Nat → St → Hp → Prop, (∃ m, W 0 m σ H1) ∧ ∀ i m σ H, W i m σ H →
  (J.stop i H ∧ D.nx σ H) ∨ (J.go i H ∧ ∃ N : St → Hp → Prop, (∀ σ' H', N σ' H' → ∃ m', m' < m ∧ W (i + 1) m' σ' H') ∧ ∀ x H', J.yld i H x H' → g x σ H' fun σ2 H2 => tb { D with nx := N, ct := N, bk := D.nx } σ2 H2)
def pinsAt (fp : List Addr) (h : Heap) : List (Addr × Obj) := fp.filterMap fun b => (h.get? b).map fun o => (b, o)
theorem mem_pinsAt {fp : List Addr} {h : Heap} {b : Addr} {o : Obj} (hb : b ∈ fp) (e : h.get? b = some o) : (b, o) ∈ pinsAt fp h := List.mem_filterMap.mpr ⟨b, hb, by rw [e]; rfl⟩
theorem of_pinsAt {fp : List Addr} {h : Heap} {p : Addr × Obj} (hp : p ∈ pinsAt fp h) : p.1 ∈ fp ∧ h.get? p.1 = some p.2 := by
  obtain ⟨b, hb, e⟩ := List.mem_filterMap.mp hp
  cases q : h.get? b with
  | none => rw [q] at e; cases e
  | some o =>
    rw [q] at e
    have e' : (b, o) = p := Option.some.inj e
    subst e'
    exact ⟨hb, q⟩
theorem Inv.pinned {pins : List (Addr × Obj)} {σ : St} {H : Hp} {s : Shared} {fp : List Addr} (I : Inv X pins σ H s) (hf : ∀ b ∈ fp, FpOk X pins H b) (ho : ∀ b ∈ fp, ∃ o, s.heap.get? b = some o ∧ ∀ v, o.data ≠ .cell v) : Inv X (pins ++ pinsAt fp s.heap) σ H s :=
  I.pins_of fun p hp => (List.mem_append.mp hp).elim (fun z => I.pin p (List.mem_append_right _ z)) fun z => by
    obtain ⟨hb, e⟩ := of_pinsAt z
    obtain ⟨f0, f1, f2, _⟩ := hf p.1 hb
    obtain ⟨o, e', d⟩ := ho p.1 hb
    rw [e] at e'; cases e'
    exact ⟨e, f0, f1, f2, d⟩
theorem Inv.unpinned {pins pl : List (Addr × Obj)} {σ : St} {H : Hp} {s : Shared} (I : Inv X (pins ++ pl) σ H s) : Inv X pins σ H s := I.pins_of fun p hp => I.pin p (List.mem_append_right _ (List.mem_append_left _ hp))
theorem ps_for {iter : Expr} {body : List Stmt} {wi : TI} {g : TG} {tb : TS} {pos : Pos} (hp : PassesOwn (model X.prog X.w) X.A X.env X.xe) (hc : X.calm = true) (hi : PI X tg iter wi) (hg : PG X tg g) (hb : PSs X body tb)
    (hs : ∀ x, foldedSetIterable iter X.env x = pure x := by intro _; rfl) : PS X (.For tg iter body [] pos) (tFor wi g tb) := by
  intro pins s σ H D I h
  refine wpAny_For (thn (hi pins s σ H _ I h) fun v s1 h1 => thn h1 fun itv s2 h2 => ?_) hs
  obtain ⟨it, fp, tn, J, H2, e, I2, T, st2, f2, W, ⟨m0, w0⟩, turn⟩ := h2
  subst e
  -- what stays true of the iterator's objects through the loop
  have stat : ∀ {H' : Hp}, (∀ b ∈ fp, H' b = none) → ∀ b ∈ fp, FpOk X pins H' b := fun hn b hb => ⟨hn b hb, (f2 b hb).2⟩
  refine codeAny_forLoop_any (fun n s' => ∃ i σ' H', Inv X pins σ' H' s' ∧ tn i s'.heap ∧ (∀ b ∈ fp, H' b = none) ∧ W i n σ' H') ?_ m0 ⟨0, σ, H2, I2, st2, fun b hb => (f2 b hb).1, w0⟩
  rintro n s3 ⟨i, σ3, H3, I3, st3, fr3, w3⟩
  rcases turn i n σ3 H3 w3 with ⟨stop, qn⟩ | ⟨go, N, hN, step⟩
  · refine wpAny_passesOwn hp (thn (T.done X rfl rfl rfl hc i pins s3 σ3 H3 X.xe I3 (stat fr3) st3 stop) fun r s4 ⟨hr, I4⟩ => ?_)
    subst hr
    exact wpAny_execs_nil ⟨σ3, H3, I4, qn⟩
  · refine wpAny_passesOwn hp (thn (T.item X rfl rfl rfl hc i pins s3 σ3 H3 X.xe I3 (stat fr3) st3 go) fun r s4 ⟨u, hr, h4⟩ => ?_)
    subst hr
    refine wpAny_passesOwn hp (thn h4 fun _ s5 ⟨x, H5, I5, r5, y5, st5, fr5⟩ => ?_)
    have I5' := I5.pinned (stat fr5) (T.obj _ _ st5)
    refine wpAny_passesOwn hp (thn (hg _ s5 σ3 H5 x u _ I5' r5 (step x H5 y5)) fun _ s6 ⟨σ6, H6, I6, q6⟩ => ?_)
    refine wpAny_passesOwn hp (thn (hb _ s6 σ6 H6 _ I6 q6) fun f s7 q7 => ?_)
    have again : ∀ {σ7 : St} {H7 : Hp}, Inv X (pins ++ pinsAt fp s5.heap) σ7 H7 s7 → N σ7 H7 → ∃ m, m < n ∧ ∃ i σ' H', Inv X pins σ' H' s7 ∧ tn i s7.heap ∧ (∀ b ∈ fp, H' b = none) ∧ W i m σ' H' := fun {σ7 H7} I7 n7 => by
      obtain ⟨m', hm, w7⟩ := hN σ7 H7 n7
      refine ⟨m', hm, i + 1, σ7, H7, I7.unpinned, T.keep _ _ _ st5 fun b hb o e => (I7.pin (b, o) (List.mem_append_right _ (List.mem_append_right _ (mem_pinsAt hb e)))).1, fun b hb => ?_, w7⟩
      obtain ⟨o, e, d⟩ := T.obj _ _ st5 b hb
      exact (I7.pin (b, o) (List.mem_append_right _ (List.mem_append_right _ (mem_pinsAt hb e)))).2.1
    cases f with
    | next => obtain ⟨σ7, H7, I7, n7⟩ := q7; exact again I7 n7
    | cont => obtain ⟨σ7, H7, I7, n7⟩ := q7; exact again I7 n7
    | brk => obtain ⟨σ7, H7, I7, q7⟩ := q7; exact ⟨σ7, H7, I7.unpinned, q7⟩
    | ret v => obtain ⟨x7, σ7, H7, I7, r7, q7⟩ := q7; exact ⟨x7, σ7, H7, I7.unpinned, r7, q7⟩
end
theorem for_list {K : PySem.W.Frag} {a : Addr} {xs : List V} {g : TG} {tb : TS} {D : Ends} {σ : St} {H : Hp} (Pv : Nat → St → Hp → Prop) (h0 : Pv 0 σ H) (hl : ∀ i σ H, i ≤ xs.length → Pv i σ H → SqL K H a xs)
    (hs : ∀ i x σ H, xs[i]? = some x → Pv i σ H → g x σ H fun σ2 H2 => tb { D with nx := Pv (i + 1), ct := Pv (i + 1), bk := D.nx } σ2 H2) (hd : ∀ σ H, Pv xs.length σ H → D.nx σ H) :
    ∃ W : Nat → Nat → St → Hp → Prop, (∃ m, W 0 m σ H) ∧ ∀ i m σ H, W i m σ H →
      ((Itl K a).stop i H ∧ D.nx σ H) ∨ ((Itl K a).go i H ∧ ∃ N : St → Hp → Prop, (∀ σ' H', N σ' H' → ∃ m', m' < m ∧ W (i + 1) m' σ' H') ∧ ∀ x H', (Itl K a).yld i H x H' → g x σ H' fun σ2 H2 => tb { D with nx := N, ct := N, bk := D.nx } σ2 H2) := by
  refine ⟨fun i m σ H => m = xs.length - i ∧ i ≤ xs.length ∧ Pv i σ H, ⟨xs.length, by simp, Nat.zero_le _, h0⟩, ?_⟩
  rintro i m σ H ⟨rfl, hi, p⟩
  have q := hl i σ H hi p
  by_cases hlt : i < xs.length
  · refine .inr ⟨⟨xs, xs[i], q, by simp [hlt]⟩, Pv (i + 1), fun σ' H' p' => ⟨xs.length - (i + 1), by omega, rfl, hlt, p'⟩, fun x H' y => ?_⟩
    obtain ⟨e, y⟩ := y
    subst e
    exact hs i x σ _ (y xs q) p
  · have e : i = xs.length := by omega
    subst e
    exact .inl ⟨⟨xs, q, Nat.le_refl _⟩, hd σ H p⟩
theorem for_tup {K : PySem.W.Frag} {a : Addr} {xs : List V} {g : TG} {tb : TS} {D : Ends} {σ : St} {H : Hp} (Pv : Nat → St → Hp → Prop) (h0 : Pv 0 σ H) (hl : ∀ i σ H, i ≤ xs.length → Pv i σ H → SqT K H a xs)
    (hs : ∀ i x σ H, xs[i]? = some x → Pv i σ H → g x σ H fun σ2 H2 => tb { D with nx := Pv (i + 1), ct := Pv (i + 1), bk := D.nx } σ2 H2) (hd : ∀ σ H, Pv xs.length σ H → D.nx σ H) :
    ∃ W : Nat → Nat → St → Hp → Prop, (∃ m, W 0 m σ H) ∧ ∀ i m σ H, W i m σ H →
      ((Itt K a).stop i H ∧ D.nx σ H) ∨ ((Itt K a).go i H ∧ ∃ N : St → Hp → Prop, (∀ σ' H', N σ' H' → ∃ m', m' < m ∧ W (i + 1) m' σ' H') ∧ ∀ x H', (Itt K a).yld i H x H' → g x σ H' fun σ2 H2 => tb { D with nx := N, ct := N, bk := D.nx } σ2 H2) := by
  refine ⟨fun i m σ H => m = xs.length - i ∧ i ≤ xs.length ∧ Pv i σ H, ⟨xs.length, by simp, Nat.zero_le _, h0⟩, ?_⟩
  rintro i m σ H ⟨rfl, hi, p⟩
  have q := hl i σ H hi p
  by_cases hlt : i < xs.length
  · refine .inr ⟨⟨xs, xs[i], q, by simp [hlt]⟩, Pv (i + 1), fun σ' H' p' => ⟨xs.length - (i + 1), by omega, rfl, hlt, p'⟩, fun x H' y => ?_⟩
    obtain ⟨e, y⟩ := y
    subst e
    exact hs i x σ _ (y xs q) p
  · have e : i = xs.length := by omega
    subst e
    exact .inl ⟨⟨xs, q, Nat.le_refl _⟩, hd σ H p⟩
theorem for_range {lo : Int} {n : Nat} {g : TG} {tb : TS} {D : Ends} {σ : St} {H : Hp} (Pv : Nat → St → Hp → Prop) (h0 : Pv 0 σ H)
    (hs : ∀ i σ H, i < n → Pv i σ H → g (.int (lo + i)) σ H fun σ2 H2 => tb { D with nx := Pv (i + 1), ct := Pv (i + 1), bk := D.nx } σ2 H2) (hd : ∀ σ H, Pv n σ H → D.nx σ H) :
    ∃ W : Nat → Nat → St → Hp → Prop, (∃ m, W 0 m σ H) ∧ ∀ i m σ H, W i m σ H →
      ((Itr lo n).stop i H ∧ D.nx σ H) ∨ ((Itr lo n).go i H ∧ ∃ N : St → Hp → Prop, (∀ σ' H', N σ' H' → ∃ m', m' < m ∧ W (i + 1) m' σ' H') ∧ ∀ x H', (Itr lo n).yld i H x H' → g x σ H' fun σ2 H2 => tb { D with nx := N, ct := N, bk := D.nx } σ2 H2) := by
  refine ⟨fun i m σ H => m = n - i ∧ i ≤ n ∧ Pv i σ H, ⟨n, by simp, Nat.zero_le _, h0⟩, ?_⟩
  rintro i m σ H ⟨rfl, hi, p⟩
  by_cases hlt : i < n
  · refine .inr ⟨hlt, Pv (i + 1), fun σ' H' p' => ⟨n - (i + 1), by omega, rfl, hlt, p'⟩, fun x H' y => ?_⟩
    obtain ⟨e, y⟩ := y
    subst e y
    exact hs i σ _ hlt p
  · have e : i = n := by omega
    subst e
    exact .inl ⟨Nat.le_refl _, hd σ H p⟩
end L2
namespace L2
open PySem PySem.Spec PyProof.Rows
abbrev R2 := V → V → Hp → VK → Prop
def OpR (X : Cx) (f : Value → Value → Sem Value) (r : R2) : Prop :=
  ∀ (pins : List (Addr × Obj)) (s : Shared) (σ : St) (H : Hp) (x y : V) (v u : Value) (Q : VK), Inv X pins σ H s → RelV x v → RelV y u → r x y H Q →
    wpAny (model X.prog X.w) X.A (f v u) (EP X pins σ Q) X.xe s
def UnR (X : Cx) (f : Value → Sem Value) (r : V → Hp → VK → Prop) : Prop :=
  ∀ (pins : List (Addr × Obj)) (s : Shared) (σ : St) (H : Hp) (x : V) (v : Value) (Q : VK), Inv X pins σ H s → RelV x v → r x H Q →
    wpAny (model X.prog X.w) X.A (f v) (EP X pins σ Q) X.xe s
def CallR (X : Cx) (f : Value) (r : List V → Hp → VK → Prop) : Prop :=
  ∀ (pins : List (Addr × Obj)) (s : Shared) (σ : St) (H : Hp) (xs : List V) (us : List Value) (Q : VK), Inv X pins σ H s → Vals xs us → r xs H Q →
    wpAny (model X.prog X.w) X.A (call f us) (EP X pins σ Q) X.xe s
def TruR (X : Cx) (r : V → Hp → (Bool → Hp → Prop) → Prop) : Prop :=
  ∀ (pins : List (Addr × Obj)) (s : Shared) (σ : St) (H : Hp) (x : V) (v : Value) (Q : Bool → Hp → Prop), Inv X pins σ H s → RelV x v → r x H Q →
    wpAny (model X.prog X.w) X.A (truthy v) (TP X pins σ Q) X.xe s
def tOp (r : R2) (ta tb : TE) : TE := fun σ H Q => ta σ H fun x H1 => tb σ H1 fun y H2 => r x y H2 Q
def tUn (r : V → Hp → VK → Prop) (ta : TE) : TE := fun σ H Q => ta σ H fun x H1 => r x H1 Q
def rI (C : Int → Int → Prop) (g : Int → Int → V) : R2 := fun x y H Q => ∃ i j, x = .int i ∧ y = .int j ∧ C i j ∧ Q (g i j) H
def rI0 (g : Int → Int → V) : R2 := fun x y H Q => ∃ i j, x = .int i ∧ y = .int j ∧ Q (g i j) H
def rU (g : Int → V) : V → Hp → VK → Prop := fun x H Q => ∃ i, x = .int i ∧ Q (g i) H
section
variable {X : Cx} {a b c : Expr} {ta tb tc : TE} {pos : Pos}
theorem binT (ha : PE X a ta) (hb : PE X b tb) {pins : List (Addr × Obj)} {s : Shared} {σ : St} {H : Hp} {R : V → V → Hp → Prop} (I : Inv X pins σ H s)
    (h : ta σ H fun x H1 => tb σ H1 fun y H2 => R x y H2) {Q : Value → Shared → Prop} {f : Value → Value → Sem Value}
    (hf : ∀ v u s2 x y H2, Inv X pins σ H2 s2 → RelV x v → RelV y u → R x y H2 → wpAny (model X.prog X.w) X.A (f v u) Q X.xe s2) :
    wpAny (model X.prog X.w) X.A (eval a X.env) (fun v s₁ => wpAny (model X.prog X.w) X.A (eval b X.env) (fun u s₂ => wpAny (model X.prog X.w) X.A (f v u) Q X.xe s₂) X.xe s₁) X.xe s := by
  refine thn (ha pins s σ H _ I h) fun v s1 ⟨x, H1, I1, r1, q1⟩ => ?_
  refine thn (hb pins s1 σ H1 _ I1 q1) fun u s2 ⟨y, H2, I2, r2, q2⟩ => ?_
  exact hf v u s2 x y H2 I2 r1 r2 q2
theorem pe_op {op : Operator} {r : R2} (ho : OpR X (binaryOp op) r) (ha : PE X a ta) (hb : PE X b tb) : PE X (.BinOp a op b pos) (tOp r ta tb) := by
  intro pins s σ H Q I h
  exact wpAny_BinOp (binT ha hb I h fun v u s2 x y H2 I2 rx ry q => ho pins s2 σ H2 x y v u Q I2 rx ry q)
theorem pe_un {op : UnaryOp} {r : V → Hp → VK → Prop} (ho : UnR X (unaryOp op) r) (ha : PE X a ta) : PE X (.UnaryOp op a pos) (tUn r ta) := by
  intro pins s σ H Q I h
  exact UnaryOp_ (thn (ha pins s σ H _ I h) fun v s1 ⟨x, H1, I1, r1, q1⟩ => ho pins s1 σ H1 x v Q I1 r1 q1)
theorem opI {f : Value → Value → Sem Value} {C : Int → Int → Prop} {g : Int → Int → Int}
    (rule : ∀ (i j : Int) (t u : Tok) (s : Shared) (Q : Value → Shared → Prop) (E : Value → Shared → Prop), C i j → Q (.int (g i j) s.toks) { s with toks := s.toks + 1 } → wpAny (model X.prog X.w) X.A (f (.int i t) (.int j u)) Q E s) :
    OpR X f (rI C fun i j => .int (g i j)) := by
  intro pins s σ H x y v u Q I rx ry h
  obtain ⟨i, j, rfl, rfl, hc, q⟩ := h
  obtain ⟨t, rfl⟩ := rx
  obtain ⟨t', rfl⟩ := ry
  exact rule i j t t' s _ _ hc ⟨.int (g i j), H, I.tok _, ⟨_, rfl⟩, q⟩
theorem opI0 {f : Value → Value → Sem Value} {g : Int → Int → Int}
    (rule : ∀ (i j : Int) (t u : Tok) (s : Shared) (Q : Value → Shared → Prop) (E : Value → Shared → Prop), Q (.int (g i j) s.toks) { s with toks := s.toks + 1 } → wpAny (model X.prog X.w) X.A (f (.int i t) (.int j u)) Q E s) :
    OpR X f (rI0 fun i j => .int (g i j)) := by
  intro pins s σ H x y v u Q I rx ry h
  obtain ⟨i, j, rfl, rfl, q⟩ := h
  obtain ⟨t, rfl⟩ := rx
  obtain ⟨t', rfl⟩ := ry
  exact rule i j t t' s _ _ ⟨.int (g i j), H, I.tok _, ⟨_, rfl⟩, q⟩
theorem opB0 {f : Value → Value → Sem Value} {g : Int → Int → Bool}
    (rule : ∀ (i j : Int) (t u : Tok) (s : Shared) (Q : Value → Shared → Prop) (E : Value → Shared → Prop), Q (.bool (g i j)) s → wpAny (model X.prog X.w) X.A (f (.int i t) (.int j u)) Q E s) :
    OpR X f (rI0 fun i j => .bl (g i j)) := by
  intro pins s σ H x y v u Q I rx ry h
  obtain ⟨i, j, rfl, rfl, q⟩ := h
  obtain ⟨t, rfl⟩ := rx
  obtain ⟨t', rfl⟩ := ry
  exact rule i j t t' s _ _ ⟨.bl (g i j), H, I, rfl, q⟩
def CDiv (i j : Int) : Prop := 0 < j ∧ j < 1073741824
def CDivN (i j : Int) : Prop := j ≠ 0 ∧ j.natAbs < 1073741824
def CPow (i j : Int) : Prop := 0 ≤ j ∧ j ≤ 1000000 ∧ i.natAbs < 2 ^ 64
def CMul (i j : Int) : Prop := (-(2 ^ 64) < i ∧ i < 2 ^ 64) ∨ (-(2 ^ 64) < j ∧ j < 2 ^ 64)
theorem op_add : OpR X (binaryOp .Add) (rI0 fun i j => .int (i + j)) := opI0 fun _ _ _ _ _ _ _ q => add_int q
theorem op_sub : OpR X (binaryOp .Sub) (rI0 fun i j => .int (i - j)) := opI0 fun _ _ _ _ _ _ _ q => sub_int q
theorem op_fdiv : OpR X (binaryOp .FloorDiv) (rI CDiv fun i j => .int (i / j)) := opI fun i j _ _ _ _ _ hc q => by
  have h1 : (0 : Int) < j := hc.1
  have h2 : j < 1073741824 := hc.2
  exact floordiv_int (by omega) (by rw [Int.fdiv_eq_ediv_of_nonneg i (by omega)]; exact q) (.inl (PyProof.noPylong_small (by omega)))
theorem op_mod : OpR X (binaryOp .Mod) (rI (fun _ j => 0 < j) fun i j => .int (i % j)) := opI fun i j _ _ _ _ _ hc q => by
  have h1 : (0 : Int) < j := hc
  exact mod_int' (by omega) (by rw [Int.fmod_eq_emod_of_nonneg i (by omega)]; exact q)
theorem op_pow : OpR X (binaryOp .Pow) (rI CPow fun i j => .int (i ^ j.toNat)) := opI fun _ _ _ _ _ _ _ hc q => pow_int_small hc.1 hc.2.1 hc.2.2 q
theorem unI {f : Value → Sem Value} {g : Int → Int}
    (rule : ∀ (i : Int) (t : Tok) (s : Shared) (Q : Value → Shared → Prop) (E : Value → Shared → Prop), Q (.int (g i) s.toks) { s with toks := s.toks + 1 } → wpAny (model X.prog X.w) X.A (f (.int i t)) Q E s) :
    UnR X f (rU fun i => .int (g i)) := by
  intro pins s σ H x v Q I rx h
  obtain ⟨i, rfl, q⟩ := h
  obtain ⟨t, rfl⟩ := rx
  exact rule i t s _ _ ⟨.int (g i), H, I.tok _, ⟨_, rfl⟩, q⟩
theorem un_neg : UnR X (unaryOp .USub) (rU fun i => .int (-i)) := unI fun _ _ _ _ _ q => neg_int q
end
def scal : V → V → Bool
  | .non, .non => true | .non, .int _ => true | .int _, .non => true | .non, .bl _ => true | .bl _, .non => true | .non, .str _ => true | .str _, .non => true
  | .int _, .int _ => true | .bl _, .bl _ => true | .str _, .str _ => true | .byt _, .byt _ => true
  | .int _, .str _ => true | .str _, .int _ => true | .bl _, .str _ => true | .str _, .bl _ => true
  | _, _ => false
def rEq : R2 := fun x y H Q => scal x y = true ∧ Q (.bl (decide (x = y))) H
def rNe : R2 := fun x y H Q => scal x y = true ∧ Q (.bl (!decide (x = y))) H
theorem dec_int {i j : Int} : decide (V.int i = V.int j) = (i == j) := by
  rw [Bool.eq_iff_iff]
  simp
theorem dec_bl {i j : Bool} : decide (V.bl i = V.bl j) = (i == j) := by
  rw [Bool.eq_iff_iff]
  simp
theorem dec_str {i j : Str} : decide (V.str i = V.str j) = (i == j) := by
  rw [Bool.eq_iff_iff]
  simp
theorem dec_byt {i j : Array UInt8} : decide (V.byt i = V.byt j) = (i.toList == j.toList) := by
  rw [Bool.eq_iff_iff]
  cases i
  cases j
  simp
section
variable {X : Cx} {a b c : Expr} {ta tb tc : TE} {pos : Pos}
theorem fin_bl {pins : List (Addr × Obj)} {σ : St} {H : Hp} {s : Shared} {Q : VK} {k k' : Bool} (I : Inv X pins σ H s) (q : Q (.bl k) H) (e : k = k') : EP X pins σ Q (.bool k') s := by
  subst e
  exact ⟨.bl k, H, I, rfl, q⟩
theorem op_eq : OpR X (compareOp .Eq) rEq := by
  intro pins s σ H x y v u Q I rx ry h
  obtain ⟨hs, q⟩ := h
  cases x with
  | non =>
    cases rx
    cases y with
    | non => cases ry; exact PySem.EqNone.eq_none_none (fin_bl I q (by simp))
    | bl j => cases ry; exact PySem.EqNone.eq_none_bool (fin_bl I q (by simp))
    | int j => obtain ⟨t', rfl⟩ := ry; exact PySem.EqNone.eq_none_int (fin_bl I q (by simp))
    | str j => obtain ⟨t', rfl⟩ := ry; exact PySem.EqNone.eq_none_str (fin_bl I q (by simp))
    | _ => exact absurd (show false = true from hs) Bool.false_ne_true
  | bl i =>
    cases rx
    cases y with
    | non => cases ry; exact PySem.EqNone.eq_bool_none (fin_bl I q (by simp))
    | bl j => cases ry; exact eq_bool (fin_bl I q dec_bl)
    | str j => obtain ⟨t', rfl⟩ := ry; exact PySem.EqMixed.eq_bool_str (fin_bl I q (by simp))
    | _ => exact absurd (show false = true from hs) Bool.false_ne_true
  | int i =>
    obtain ⟨t, rfl⟩ := rx
    cases y with
    | non => cases ry; exact PySem.EqNone.eq_int_none (fin_bl I q (by simp))
    | int j => obtain ⟨t', rfl⟩ := ry; exact eq_int (fin_bl I q dec_int)
    | str j => obtain ⟨t', rfl⟩ := ry; exact PySem.EqMixed.eq_int_str (fin_bl I q (by simp))
    | _ => exact absurd (show false = true from hs) Bool.false_ne_true
  | str i =>
    obtain ⟨t, rfl⟩ := rx
    cases y with
    | non => cases ry; exact PySem.EqNone.eq_str_none (fin_bl I q (by simp))
    | bl j => cases ry; exact PySem.EqMixed.eq_str_bool (fin_bl I q (by simp))
    | int j => obtain ⟨t', rfl⟩ := ry; exact PySem.EqMixed.eq_str_int (fin_bl I q (by simp))
    | str j => obtain ⟨t', rfl⟩ := ry; exact eq_str (fin_bl I q dec_str)
    | _ => exact absurd (show false = true from hs) Bool.false_ne_true
  | byt i =>
    obtain ⟨t, rfl⟩ := rx
    cases y with
    | byt j => obtain ⟨t', rfl⟩ := ry; exact PySem.W.eq_bytes (fin_bl I q dec_byt)
    | _ => exact absurd (show false = true from hs) Bool.false_ne_true
  | _ => cases y <;> exact absurd (show false = true from hs) Bool.false_ne_true
theorem op_ne : OpR X (compareOp .NotEq) rNe := by
  intro pins s σ H x y v u Q I rx ry h
  obtain ⟨hs, q⟩ := h
  cases x with
  | non =>
    cases rx
    cases y with
    | non => cases ry; exact PySem.EqNone.ne_none_none (fin_bl I q (by simp))
    | bl j => cases ry; exact PySem.EqNone.ne_none_bool (fin_bl I q (by simp))
    | int j => obtain ⟨t', rfl⟩ := ry; exact PySem.EqNone.ne_none_int (fin_bl I q (by simp))
    | str j => obtain ⟨t', rfl⟩ := ry; exact PySem.EqNone.ne_none_str (fin_bl I q (by simp))
    | _ => exact absurd (show false = true from hs) Bool.false_ne_true
  | bl i =>
    cases rx
    cases y with
    | non => cases ry; exact PySem.EqNone.ne_bool_none (fin_bl I q (by simp))
    | bl j => cases ry; exact ne_bool (fin_bl I q (congrArg not dec_bl))
    | str j => obtain ⟨t', rfl⟩ := ry; exact PySem.EqMixed.ne_bool_str (fin_bl I q (by simp))
    | _ => exact absurd (show false = true from hs) Bool.false_ne_true
  | int i =>
    obtain ⟨t, rfl⟩ := rx
    cases y with
    | non => cases ry; exact PySem.EqNone.ne_int_none (fin_bl I q (by simp))
    | int j => obtain ⟨t', rfl⟩ := ry; exact ne_int (fin_bl I q (congrArg not dec_int))
    | str j => obtain ⟨t', rfl⟩ := ry; exact PySem.EqMixed.ne_int_str (fin_bl I q (by simp))
    | _ => exact absurd (show false = true from hs) Bool.false_ne_true
  | str i =>
    obtain ⟨t, rfl⟩ := rx
    cases y with
    | non => cases ry; exact PySem.EqNone.ne_str_none (fin_bl I q (by simp))
    | bl j => cases ry; exact PySem.EqMixed.ne_str_bool (fin_bl I q (by simp))
    | int j => obtain ⟨t', rfl⟩ := ry; exact PySem.EqMixed.ne_str_int (fin_bl I q (by simp))
    | str j => obtain ⟨t', rfl⟩ := ry; exact ne_str (fin_bl I q (congrArg not dec_str))
    | _ => exact absurd (show false = true from hs) Bool.false_ne_true
  | byt i =>
    obtain ⟨t, rfl⟩ := rx
    cases y with
    | byt j => obtain ⟨t', rfl⟩ := ry; exact PySem.W.ne_bytes (fin_bl I q (congrArg not dec_byt))
    | _ => exact absurd (show false = true from hs) Bool.false_ne_true
  | _ => cases y <;> exact absurd (show false = true from hs) Bool.false_ne_true
theorem op_lt : OpR X (compareOp .Lt) (rI0 fun i j => .bl (decide (i < j))) := opB0 fun _ _ _ _ _ _ _ q => lt_int q
theorem op_le : OpR X (compareOp .LtE) (rI0 fun i j => .bl (decide (i ≤ j))) := opB0 fun _ _ _ _ _ _ _ q => le_int q
theorem op_gt : OpR X (compareOp .Gt) (rI0 fun i j => .bl (decide (j < i))) := opB0 fun _ _ _ _ _ _ _ q => gt_int q
theorem op_ge : OpR X (compareOp .GtE) (rI0 fun i j => .bl (decide (j ≤ i))) := opB0 fun _ _ _ _ _ _ _ q => ge_int q
theorem op_isN : OpR X (compareOp .Is) (fun x y H Q => y = .non ∧ Q (.bl (decide (x = .non))) H) := by
  intro pins s σ H x y v u Q I rx ry h
  obtain ⟨rfl, q⟩ := h
  cases ry
  refine is_none_gen (fin_bl I q ?_)
  cases x <;> first
    | (cases rx; rfl)
    | (obtain ⟨t, rfl⟩ := rx; rfl)
theorem op_notN : OpR X (compareOp .IsNot) (fun x y H Q => y = .non ∧ Q (.bl (!decide (x = .non))) H) := by
  intro pins s σ H x y v u Q I rx ry h
  obtain ⟨rfl, q⟩ := h
  cases ry
  refine isnot_none_gen (fin_bl I q ?_)
  cases x <;> first
    | (cases rx; rfl)
    | (obtain ⟨t, rfl⟩ := rx; rfl)
def isObj : HO → Bool
  | .lst _ => true
  | .ins _ _ _ => true
  | _ => false
theorem nomark (b : Expr) {op : CmpOp} (h : op ≠ .In := by decide) (h2 : op ≠ .NotIn := by decide) : behindInMarks op b = false := by
  have e1 : (op == CmpOp.In) = false := by cases op <;> first | rfl | exact absurd rfl h
  have e2 : (op == CmpOp.NotIn) = false := by cases op <;> first | rfl | exact absurd rfl h2
  cases b <;> simp [behindInMarks, e1, e2]
theorem pe_cmpR {op : CmpOp} {r : R2} (ho : OpR X (compareOp op) r) (ha : PE X a ta) (hb : PE X b tb) (hm : behindInMarks op b = false) : PE X (.Compare a [op] [b] pos) (tOp r ta tb) := by
  intro pins s σ H Q I h
  exact wpAny_Compare1 (binT ha hb I h fun v u s2 x y H2 I2 rx ry q => ho pins s2 σ H2 x y v u Q I2 rx ry q) hm
def tTest (t : TE) : TT := fun σ H Q => t σ H fun x H' => ∃ k, x = .bl k ∧ Q k H'
theorem pt_cmpR {op : CmpOp} {r : R2} (ho : OpR X (compareOp op) r) (ha : PE X a ta) (hb : PE X b tb) (hm : behindInMarks op b = false) : PT X (.Compare a [op] [b] pos) (tTest (tOp r ta tb)) := by
  intro pins s σ H Q I h
  refine wpAny_isTrue_Compare1 (thn (ha pins s σ H _ I h) fun v s1 ⟨x, H1, I1, r1, q1⟩ => thn (hb pins s1 σ H1 _ I1 q1) fun u s2 ⟨y, H2, I2, r2, q2⟩ =>
    thn (ho pins s2 σ H2 x y v u _ I2 r1 r2 q2) fun c s3 ⟨z, H3, I3, r3, k, e, q3⟩ => ?_) hm
  subst e
  cases r3
  exact wpAny_truthy_bool ⟨H3, I3, q3⟩
def tChain (r r' : R2) (ta tb tc : TE) : TE := fun σ H Q => ta σ H fun x H1 => tb σ H1 fun y H2 => r x y H2 fun z H3 => ∃ k, z = .bl k ∧
  (if k = true then tc σ H3 fun w' H4 => r' y w' H4 Q else Q (.bl false) H3)
theorem pt_chain {op op' : CmpOp} {r r' : R2} (ho : OpR X (compareOp op) r) (ho' : OpR X (compareOp op') r') (ha : PE X a ta) (hb : PE X b tb) (hc : PE X c tc)
    (hm : lastMarks [op, op'] [b, c] = false := by with_unfolding_all rfl) : PT X (.Compare a [op, op'] [b, c] pos) (tTest (tChain r r' ta tb tc)) := by
  intro pins s σ H Q I h
  refine isTrue_chain (thn (ha pins s σ H _ I h) fun v s1 ⟨x, H1, I1, r1, q1⟩ => test_link (thn (hb pins s1 σ H1 _ I1 q1) fun u s2 ⟨y, H2, I2, r2, q2⟩ =>
    thn (ho pins s2 σ H2 x y v u _ I2 r1 r2 q2) fun d s3 ⟨z, H3, I3, r3, k, e, q3⟩ => ?_)) hm
  subst e
  cases r3
  refine wpAny_truthy_bool ?_
  cases k with
  | false =>
    obtain ⟨k', e', q'⟩ := q3
    cases e'
    exact ite_ff ⟨H3, I3, q'⟩
  | true =>
    refine ite_tt (test_last (thn (hc pins s3 σ H3 _ I3 q3) fun w' s4 ⟨z', H4, I4, r4, q4⟩ => thn (ho' pins s4 σ H4 y z' u w' _ I4 r2 r4 q4) fun d' s5 ⟨z2, H5, I5, r5, k2, e2, q5⟩ => ?_))
    subst e2
    cases r5
    exact wpAny_truthy_bool ⟨H5, I5, q5⟩
def TruV (K : PySem.W.Frag) (x : V) (H : Hp) (k : Bool) : Prop :=
  match x with
  | .non => k = false
  | .bl b => k = b
  | .int i => k = (i != 0)
  | .str y => y.length ≤ sizeLine ∧ k = ((y.length : Int) != 0)
  | .byt y => y.size ≤ sizeLine ∧ k = ((y.size : Int) != 0)
  | .ref p => (∃ xs, SqL K H p xs ∧ k = !xs.isEmpty) ∨ (∃ xs, SqT K H p xs ∧ k = !xs.isEmpty) ∨ ∃ kvs, H p = some (.dK kvs) ∧ k = !kvs.isEmpty
  | _ => False
theorem isEmpty_kv {κ : Type} {kvs : List (κ × V)} {vs : List (κ × Value)} (r : KV kvs vs) : (!vs.isEmpty) = !kvs.isEmpty := by
  cases r <;> rfl
theorem isEmpty_of {xs : List V} {its : List Value} (r : Vals xs its) : (!its.toArray.isEmpty) = !xs.isEmpty := by
  cases r <;> simp
theorem line63 : (sizeLine : Nat) < 2 ^ 63 := by rw [sizeLine_eq]; decide
theorem tru_ok : TruR X (fun x H Q => ∃ k, TruV X.K x H k ∧ Q k H) := by
  intro pins s σ H x v Q I rx h
  obtain ⟨k, e, q⟩ := h
  have hl := line63
  have hs : sizeLine = 16777216 := sizeLine_eq
  cases x with
  | non =>
    cases rx
    have e' : k = false := e
    subst e'
    exact truthy_none ⟨H, I, q⟩
  | bl b =>
    cases rx
    have e' : k = b := e
    subst e'
    exact wpAny_truthy_bool ⟨H, I, q⟩
  | int i =>
    obtain ⟨t, rfl⟩ := rx
    have e' : k = (i != 0) := e
    subst e'
    exact PySem.P.truthy_int ⟨H, I, q⟩
  | str y =>
    obtain ⟨t, rfl⟩ := rx
    obtain ⟨hy, e'⟩ : y.length ≤ sizeLine ∧ k = ((y.length : Int) != 0) := e
    subst e'
    exact PySem.P.truthy_str (by omega) ⟨H, I.tok _, q⟩
  | byt y =>
    obtain ⟨t, rfl⟩ := rx
    obtain ⟨hy, e'⟩ : y.size ≤ sizeLine ∧ k = ((y.size : Int) != 0) := e
    subst e'
    exact PySem.W.truthy_bytes (by omega) ⟨H, I.tok _, q⟩
  | ref p =>
    cases rx
    have e' : (∃ xs, SqL X.K H p xs ∧ k = !xs.isEmpty) ∨ (∃ xs, SqT X.K H p xs ∧ k = !xs.isEmpty) ∨ ∃ kvs, H p = some (.dK kvs) ∧ k = !kvs.isEmpty := e
    rcases e' with ⟨xs, hx, e'⟩ | ⟨xs, hx, e'⟩ | ⟨kvs, hx, e'⟩
    · subst e'
      obtain ⟨its, r, pl, hz⟩ := I.list hx
      have hlen := r.length
      exact wpAny_truthy_list pl.isList (by simp only [List.size_toArray]; omega) ⟨H, I.tok _, by rw [isEmpty_of r]; exact q⟩
    · subst e'
      obtain ⟨its, r, pl, hz⟩ := I.tuple hx
      have hlen := r.length
      exact truthy_tuple pl (by simp only [List.size_toArray]; omega) ⟨H, I.tok _, by rw [isEmpty_of r]; exact q⟩
    · subst e'
      obtain ⟨hz, hS, vs, r, m⟩ : kvs.length ≤ sizeLine ∧ (p == sysModules) = false ∧ ∃ vs, KV kvs vs ∧ s.heap.DictOf (mixKind X.prog X.w) p vs := I.hok p _ hx
      have hlen : kvs.length = vs.length := Paired.length r
      exact wpAny_truthy_dict hS m (by omega) ⟨H, I.tok _, by rw [isEmpty_kv r]; exact q⟩
  | _ => exact (show False from e).elim
theorem pt_truth (ha : PE X a ta) (he : ∀ whole, isTrue a X.env whole = (do let v ← whole; standAt a.pos; holding [v] (truthy v))) :
    PT X a (fun σ H Q => ta σ H fun x H' => ∃ k, TruV X.K x H' k ∧ Q k H') := by
  intro pins s σ H Q I h
  exact isTrue_plain (thn (ha pins s σ H _ I h) fun v s1 ⟨x, H1, I1, r1, q1⟩ => tru_ok pins s1 σ H1 x v Q I1 r1 q1) (he _)
def PlainIxT (b : Expr) : Prop := ∀ o i, subscripted b false o i = operate [o, i] (getItem o i)
theorem vals1 {x : V} {us : List Value} (r : Vals [x] us) : ∃ u, us = [u] ∧ RelV x u := by
  cases r with
  | cons r1 r2 => cases r2; exact ⟨_, rfl, r1⟩
theorem vals2 {x y : V} {us : List Value} (r : Vals [x, y] us) : ∃ u w', us = [u, w'] ∧ RelV x u ∧ RelV y w' := by
  cases r with
  | cons r1 r2 =>
    cases r2 with
    | cons r3 r4 => cases r4; exact ⟨_, _, rfl, r1, r3⟩
theorem call_int1 : CallR X (.type "int") (fun xs H Q => (∃ i, xs = [.int i] ∧ Q (.int i) H) ∨ ∃ k, xs = [.bl k] ∧ Q (.int (if k then 1 else 0)) H) := by
  intro pins s σ H xs us Q I r h
  rcases h with ⟨i, rfl, q⟩ | ⟨k, rfl, q⟩
  · obtain ⟨u, rfl, t, rfl⟩ := vals1 r
    exact call_int_int ⟨.int i, H, I, ⟨_, rfl⟩, q⟩
  · obtain ⟨u, rfl, r1⟩ := vals1 r
    cases r1
    exact call_int_bool ⟨.int (if k then 1 else 0), H, I.tok _, ⟨_, rfl⟩, q⟩
def LenV (K : PySem.W.Frag) (x : V) (H : Hp) (n : Nat) : Prop :=
  match x with
  | .str y => y.length ≤ sizeLine ∧ n = y.length
  | .byt y => y.size ≤ sizeLine ∧ n = y.size
  | .ref p => (∃ xs, SqL K H p xs ∧ n = xs.length) ∨ ∃ xs, SqT K H p xs ∧ n = xs.length
  | _ => False
end
end L2
namespace L2
open PySem PySem.Spec PyProof.Rows
structure ObjM (h : Heap) (x dx C : Addr) (mA : Str → Option Value) : Prop where
  obj : h.get? x = some (PySem.W.instObj C dx)
  ns : h.Ns1 dx mA
  ne : dx ≠ x
theorem lookIn_ns {h : Heap} {dx : Addr} {mA : Str → Option Value} (n : h.Ns1 dx mA) : ∃ od, h.get? dx = some od ∧ ∀ name, PySem.W.lookIn name od = some (mA name) := by
  obtain ⟨o, es, ep, ho, hd, hk, _, hm⟩ := n
  refine ⟨o, ho, fun name => ?_⟩
  have e := hm name
  unfold nsFind findBy at e
  rw [← Array.find?_toList] at e
  unfold PySem.W.lookIn
  rw [hd]
  dsimp only
  split
  · rename_i y q
    rw [q] at e
    exact congrArg some e
  · rename_i q
    rw [q] at e
    have a : es.toList.any (·.refKey) = false := by
      rw [List.any_eq_false]
      intro y hy
      obtain ⟨z, t, hkey⟩ := hk y (Array.mem_toList_iff.mp hy)
      simp [DictEntry.refKey, hkey]
    have a' : ¬ es.toList.any (·.refKey) = true := by rw [a]; exact Bool.false_ne_true
    rw [if_neg a']
    exact congrArg some e
theorem ObjM.look {h : Heap} {x dx C : Addr} {mA : Str → Option Value} (I : ObjM h x dx C mA) : ∃ od, PySem.W.InstAt h x (PySem.W.instObj C dx) C (some od) ∧ ∀ name, PySem.W.lookIn name od = some (mA name) :=
  let ⟨od, ho, hl⟩ := lookIn_ns I.ns
  ⟨od, ⟨I.obj, rfl, rfl, ho⟩, hl⟩
section
variable {prog : Program} {w : World} {A : Around} {E : Value → Shared → Prop} {s : Shared} {K : PySem.W.Frag} {x dx C f : Addr} {mA : Str → Option Value} {name : Str} {v : Value}
end
def putF (f : Str) (v : V) : List (Str × V) → List (Str × V)
  | [] => [(f, v)]
  | (g, x) :: r => if g = f then (g, v) :: r else (g, x) :: putF f v r
section
variable {P : Program} {w : World} {H H' : Hp} {h h' : Heap} {a C dx : Addr} {fs fs' : List (Str × V)}
theorem ins_get (hok : HOk P w H h) (e : H a = some (.ins C dx fs)) : ∃ mA, ObjM h a dx C mA ∧ (∀ f, RelO (fs.lookup f) (mA f)) ∧ PySem.Within mA (fs.map (·.1)) ∧ fs.length ≤ 1000 ∧ H dx = some (.own a) := by
  obtain ⟨d, z, ne, ob, mA, n, r, q⟩ := (show ObjOk P w H h a (.ins C dx fs) from hok a _ e)
  exact ⟨mA, ⟨ob, n, ne⟩, r, q, z, d⟩
end
structure Cls (K : PySem.W.Frag) (C : Addr) : Prop where
  pg : PySem.W.plainGet K C Str.empty = true
  hd : PySem.W.hasDictIn K C = true
  po : PySem.W.plainOver K C = true
  sa : PySem.W.findIn K (.ref C) "__setattr__" = some (some (.builtin "object.__setattr__"))
theorem Cls.get {K : PySem.W.Frag} {C : Addr} (c : Cls K C) (f : Str) : PySem.W.plainGet K C f = true := c.pg
def NoAttr (K : PySem.W.Frag) (C : Addr) (f : Str) : Prop := PySem.W.findIn K (.ref C) f = some none
structure Con (K : PySem.W.Frag) (C : Addr) (f : Str) (v : V) (u : Value) : Prop where
  at_ : PySem.W.findIn K (.ref C) f = some (some u)
  rel : RelV v u
  get : PySem.W.specialIn K u "__get__" = some none
  cp : PySem.W.copiedNames.contains f = false
structure Meth (K : PySem.W.Frag) (C : Addr) (m : Str) (f : Addr) : Prop where
  at_ : PySem.W.findIn K (.ref C) m = some (some (.ref f))
  fn : PySem.W.isFn K (.ref f) = true
  kp : PySem.W.keepIn K (.ref f) = true
section
variable {X : Cx} {pins : List (Addr × Obj)} {σ : St} {H : Hp} {s : Shared} {a C dx : Addr} {fs : List (Str × V)} {f : Str} {v : V} {A : Around} {E : Value → Shared → Prop}
end
def tFld (K : PySem.W.Frag) (ta : TE) (f : Str) : TE := fun σ H Q => ta σ H fun x H1 => ∃ a C dx fs v, x = .ref a ∧ H1 a = some (.ins C dx fs) ∧ Cls K C ∧ NoAttr K C f ∧ fs.lookup f = some v ∧ Q v H1
def tCon (K : PySem.W.Frag) (ta : TE) (f : Str) : TE := fun σ H Q => ta σ H fun x H1 => ∃ a C dx fs v u, x = .ref a ∧ H1 a = some (.ins C dx fs) ∧ Cls K C ∧ Con K C f v u ∧ fs.lookup f = none ∧ Q v H1
def sFld (K : PySem.W.Frag) (ta tv : TE) (f : Str) : TS := fun D σ H => tv σ H fun y H1 => ta σ H1 fun x H2 => ∃ a C dx fs, x = .ref a ∧ H2 a = some (.ins C dx fs) ∧ Cls K C ∧ NoAttr K C f ∧ fs.length < 1000 ∧
  D.nx σ (upd H2 a (.ins C dx (putF f y fs)))
def InOp (X : Cx) (op : Operator) (rd : V → V → Hp → VK → Prop) : Prop :=
  ∀ (pins : List (Addr × Obj)) (s : Shared) (σ : St) (H : Hp) (x y : V) (u v : Value) (Q : VK), Inv X pins σ H s → RelV x u → RelV y v → rd x y H Q → wpAny (model X.prog X.w) X.A (inplaceOp op u v) (EP X pins σ Q) X.xe s
def sFldAug (K : PySem.W.Frag) (ta tv : TE) (rd : V → V → Hp → VK → Prop) (f : Str) : TS := fun D σ H => ta σ H fun x H1 => ∃ a C dx fs v, x = .ref a ∧ H1 a = some (.ins C dx fs) ∧ Cls K C ∧ NoAttr K C f ∧ fs.lookup f = some v ∧
  tv σ H1 fun y H2 => rd v y H2 fun z H3 => ∃ dx' fs', H3 a = some (.ins C dx' fs') ∧ fs'.length < 1000 ∧ D.nx σ (upd H3 a (.ins C dx' (putF f z fs')))
section
variable {X : Cx} {o e value : Expr} {f : Str} {pos pos' tpos : Pos} {ta tv : TE}
def rAdd : V → V → Hp → VK → Prop := fun x y H Q => ∃ i j, x = .int i ∧ y = .int j ∧ Q (.int (i + j)) H
def rSub : V → V → Hp → VK → Prop := fun x y H Q => ∃ i j, x = .int i ∧ y = .int j ∧ Q (.int (i - j)) H
end
section
variable {X : Cx} {pins : List (Addr × Obj)} {σ : St} {H : Hp} {s : Shared} {A : Around} {E : Value → Shared → Prop} {Q : Value → Shared → Prop} {c : Value} {b : Bool}
inductive TyOf (K : PySem.W.Frag) (H : Hp) : V → Value → Prop where
  | non : TyOf K H .non (.type "NoneType")
  | bl (x : Bool) : TyOf K H (.bl x) (.type "bool")
  | int (i : Int) : TyOf K H (.int i) (.type "int")
  | str (x : Str) : TyOf K H (.str x) (.type "str")
  | flt (x : UInt64) : TyOf K H (.flt x) (.type "float")
  | lst {a : Addr} {xs : List V} (e : H a = some (.lst xs)) : TyOf K H (.ref a) (.type "list")
  | frz {a : Addr} {o : Obj} {xs : List V} (e : H a = some (.frz o (.lst xs))) : TyOf K H (.ref a) (.type "list")
  | tup {a : Addr} {xs : List V} (e : H a = some (.tup xs)) : TyOf K H (.ref a) (.type "tuple")
  | dK {a : Addr} {kvs : List (Key × V)} (e : H a = some (.dK kvs)) : TyOf K H (.ref a) (.type "dict")
  | dT {a : Addr} {kvs : List (List Key × V)} (e : H a = some (.dT kvs)) : TyOf K H (.ref a) (.type "dict")
  | ins {a C dx : Addr} {fs : List (Str × V)} (e : H a = some (.ins C dx fs)) (cl : Cls K C) (ha : PySem.W.findIn K (.ref C) "__class__" = some (some (.builtin "object.__class__")))
      (hn : PySem.W.specialIn K (.builtin "object.__class__") "__get__" = some (some (.builtin "getset_descriptor.__get__"))) (htk : PySem.W.takesIn K (.builtin "object.__class__") = some true)
      (hm : PySem.W.mroIn K C (.type "object") = some true) : TyOf K H (.ref a) (.ref C)
theorem isinst_ok {x : V} {u t : Value} (I : Inv X pins σ H s) (rx : RelV x u) (ty : TyOf X.K H x t) (e : PySem.W.kitOne X.K t c = some b) (h : ∀ tk, Q (.bool b) { s with toks := tk }) :
    wpAny (model X.prog X.w) A (call (.builtin "isinstance") [u, c]) Q E s := by
  cases ty with
  | non => cases (show u = Value.none from rx); exact PySem.W.kia_one PySem.W.kitx_none I.kIn True.intro e (fun z => nomatch z) h
  | bl y => cases (show u = Value.bool y from rx); exact PySem.W.kia_one PySem.W.kitx_bool I.kIn True.intro e (fun z => nomatch z) h
  | int i => obtain ⟨t, q⟩ := (show ∃ t, u = Value.int i t from rx); cases q; exact PySem.W.kia_one PySem.W.kitx_int I.kIn True.intro e (fun z => nomatch z) h
  | str y => obtain ⟨t, q⟩ := (show ∃ t, u = Value.str y t from rx); cases q; exact PySem.W.kia_one PySem.W.kitx_str I.kIn True.intro e (fun z => nomatch z) h
  | flt y => obtain ⟨t, q⟩ := (show ∃ t, u = Value.float y t from rx); cases q; exact PySem.W.kia_one PySem.W.kitx_float I.kIn True.intro e (fun z => nomatch z) h
  | @lst a xs ea =>
    cases (show u = Value.ref a from rx)
    obtain ⟨_, _, n, _, h1⟩ := (show ObjOk X.prog X.w H s.heap a (.lst xs) from I.hok a _ ea)
    exact PySem.W.kia_one PySem.W.kitx_list I.kIn ⟨_, h1, rfl⟩ e (fun z => nomatch z) h
  | @frz a ob xs ea =>
    cases (show u = Value.ref a from rx)
    obtain ⟨_, _, _, n, _, h1⟩ := (show ObjOk X.prog X.w H s.heap a (.frz ob (.lst xs)) from I.hok a _ ea)
    exact PySem.W.kia_one PySem.W.kitx_list I.kIn ⟨_, h1, rfl⟩ e (fun z => nomatch z) h
  | @tup a xs ea =>
    cases (show u = Value.ref a from rx)
    obtain ⟨_, _, _, p⟩ := (show ObjOk X.prog X.w H s.heap a (.tup xs) from I.hok a _ ea)
    obtain ⟨o, h1, h2, _⟩ := p
    exact PySem.W.kia_one PySem.W.kitx_tuple I.kIn ⟨o, h1, h2⟩ e (fun z => nomatch z) h
  | @dK a kvs ea =>
    cases (show u = Value.ref a from rx)
    obtain ⟨_, _, vs, _, p⟩ := (show ObjOk X.prog X.w H s.heap a (.dK kvs) from I.hok a _ ea)
    obtain ⟨o, es, ep, h1, h2, _⟩ := p
    exact PySem.W.kia_one PySem.W.kitx_dict I.kIn ⟨o, h1, h2.1⟩ e (fun z => nomatch z) h
  | @dT a kvs ea =>
    cases (show u = Value.ref a from rx)
    obtain ⟨_, _, xs, _, o, es, ep, h1, h2, _⟩ := (show ObjOk X.prog X.w H s.heap a (.dT kvs) from I.hok a _ ea)
    exact PySem.W.kia_one PySem.W.kitx_dict I.kIn ⟨o, h1, h2.1⟩ e (fun z => nomatch z) h
  | @ins a C dx fs ea cl ha hn htk hm =>
    cases (show u = Value.ref a from rx)
    obtain ⟨mA, O, _⟩ := ins_get I.hok ea
    obtain ⟨od, J, _⟩ := O.look
    exact PySem.W.kia_one (PySem.W.kitx_own (cl.get _) cl.hd ha hn htk hm) I.kIn J e (fun z => nomatch z) h
end
end L2
namespace L2
open PySem PySem.Spec PyProof.Rows
structure Room (k : Nat) (A : Around) : Prop where
  hd : A.handled = none
  dp : A.depth + 3 * k + 5 < recursionLimit
  un : A.units + 16 * k + 200 < cLine
theorem Room.mono {j k : Nat} {A : Around} (r : Room k A) (h : j ≤ k) : Room j A := ⟨r.hd, by have := r.dp; omega, by have := r.un; omega⟩
theorem Room.deeper {k : Nat} {A : Around} (r : Room (k + 1) A) (env : Env) : Room k (A.deeper env) :=
  ⟨r.hd, by have := r.dp; show A.depth + 1 + 3 * k + 5 < _; omega, by have := r.un; show A.units + 3 + 16 * k + 200 < _; omega⟩
theorem Room.depth {k : Nat} {A : Around} (r : Room k A) : A.depth < recursionLimit := by have := r.dp; omega
theorem Room.units0 {k : Nat} {A : Around} (r : Room k A) : A.units < cLine := by have := r.un; omega
def tNil : TA := fun _ H Q => Q [] H
def tCons (ta : TE) (tr : TA) : TA := fun σ H Q => ta σ H fun x H1 => tr σ H1 fun xs H2 => Q (x :: xs) H2
section
variable {X : Cx} {e : Expr} {es : List Expr} {te : TE} {t : TA} {pos : Pos}
theorem pa_nil : PA X [] tNil := fun _ _ _ _ H Q I h => Calls.spliced_nil ⟨[], H, I, .nil, h⟩
theorem pa_cons (ha : PE X e te) (hr : PA X es t) (hs : starEach (e :: es) X.env = (false, eval e X.env) :: starEach es X.env := by rfl) : PA X (e :: es) (tCons te t) := by
  intro pos pins s σ H Q I h
  rw [hs]
  show wpAny _ _ (spliced ((false, eval e X.env) :: backTo pos (starEach es X.env))) _ _ s
  refine Calls.spliced_cons (thn (ha pins s σ H _ I h) fun u s1 ⟨x, H1, I1, r1, q1⟩ => ?_)
  exact thn (hr pos pins s1 σ H1 _ I1 q1) fun us s2 ⟨xs, H2, I2, r2, q2⟩ => ⟨x :: xs, H2, I2, .cons r1 r2, q2⟩
def tTup (t : TA) : TE := fun σ H Q => t σ H fun xs H1 => xs.length ≤ sizeLine ∧ ∀ p, H1 p = none → Q (.ref p) (upd H1 p (.tup xs))
def tLst (t : TA) : TE := fun σ H Q => t σ H fun xs H1 => xs.length ≤ sizeLine ∧ ∀ p, H1 p = none → Q (.ref p) (upd H1 p (.lst xs))
theorem pe_tup {x1} (h : PA X es t) : PE X (.Tuple es x1 pos) (tTup t) := by
  intro pins s σ H Q I hq
  refine wpAny_Tuple_spliced (thn (h pos pins s σ H _ I hq) fun us s1 ⟨xs, H1, I1, r, z, q⟩ => ⟨by rw [← r.length]; exact z, ?_⟩)
  have hf : H1 s1.heap.objs.size = none := I1.hok.fresh (Nat.le_refl _)
  refine ⟨.ref s1.heap.objs.size, upd H1 s1.heap.objs.size (.tup xs), I1.laid (t' := s1.toks) (fun b u e => Heap.get?_push_of_some _ e) (Nat.le_refl _) ?_, rfl, q _ hf⟩
  exact ⟨z, us, r, ⟨_, Heap.get?_push_size _ rfl, rfl, ⟨_, rfl⟩, rfl⟩⟩
theorem pe_lst (h : PA X es t) : PE X (.List es pos) (tLst t) := by
  intro pins s σ H Q I hq
  refine wpAny_List_spliced (thn (h pos pins s σ H _ I hq) fun us s1 ⟨xs, H1, I1, r, z, q⟩ => ⟨by rw [← r.length]; exact z, ?_⟩)
  have hf : H1 s1.heap.objs.size = none := I1.hok.fresh (Nat.le_refl _)
  refine ⟨.ref s1.heap.objs.size, upd H1 s1.heap.objs.size (.lst xs), I1.laid (t' := s1.toks) (fun b u e => Heap.get?_push_of_some _ e) (Nat.le_refl _) ?_, rfl, q _ hf⟩
  exact ⟨z, us, 0, r, Heap.get?_push_size _ rfl⟩
end
abbrev Sp := List V → Hp → VK → XK → Prop
abbrev CXT := List Env → Hp → Shared → XK → Value → Shared → Prop
structure Env0 (P : Program) (w : World) (K : PySem.W.Frag) (mg : Str → Option Value) (base : Heap) (A : Around) (outer : List Env) (s : Shared) (H : Hp) : Prop where
  frames : A.frames = some outer
  mod : Mod K mg base
  bs : ∀ b o, base.get? b = some o → s.heap.get? b = some o ∧ H b = none
  bsz : base.objs.size ≤ s.heap.objs.size
  funs : s.heap.FunFrames base outer
  frf : ∀ b ∈ frs outer, H b = none
  hok : HOk P w H s.heap
  bare : AllBare s.gens
def CE (outer : List Env) (P : Program) (w : World) (H : Hp) (s : Shared) (Q : VK) (u : Value) (s' : Shared) : Prop :=
  ∃ v H', s'.os = s.os ∧ AllBare s'.gens ∧ Un (frs outer) [] H H' s.heap s'.heap ∧ HOk P w H' s'.heap ∧ RelV v u ∧ Q v H'
def CR (CX : CXT) (outer : List Env) (P : Program) (w : World) (H : Hp) (s : Shared) (Q : VK) (E : XK) (r : Result) (s' : Shared) : Prop :=
  match r with
  | .ok (.ret u) => CE outer P w H s Q u s'
  | .ok _ => False
  | .error e => CX outer H s E e s'
structure FnOk (P : Program) (w : World) (K : PySem.W.Frag) (mg : Str → Option Value) (base : Heap) (CX : CXT) (k : Nat) (f : Addr) (fd : FuncData) (ps : List Str) (sp : Sp) : Prop where
  len : ∀ vs H Q E, sp vs H Q E → vs.length = ps.length
  run : ∀ (A : Around) (outer : List Env) (s : Shared) (H : Hp) (args : Args) (us : List Value) (vs : List V) (Q : VK) (E : XK), Room k A → Env0 P w K mg base A outer s H → BindsTo s fd args (ps.zip us) → Vals vs us → sp vs H Q E →
    codeAny (model P w) A (.call (.ref f) args) (CR CX outer P w H s Q E) s
section
variable {X : Cx} {pins : List (Addr × Obj)} {σ : St} {H : Hp} {s s' : Shared}
theorem Inv.env0 (I : Inv X pins σ H s) : Env0 X.prog X.w X.K X.mg X.base X.A X.stack s H :=
  ⟨I.ok.frames, I.ok.mod, I.bs, Nat.le_trans I.ok.bsz I.sz, I.stack, I.stkFree, I.hok, I.bare⟩
theorem Inv.after {Q : VK} {u : Value} (I : Inv X pins σ H s) (h : CE X.stack X.prog X.w H s Q u s') : EP X pins σ Q u s' := by
  obtain ⟨v, H', os, bare, un, hok, r, q⟩ := h
  obtain ⟨hh, g, d, t, os'⟩ := s'
  obtain rfl : os' = s.os := os
  exact ⟨v, H', I.call (h' := hh) (g' := g) (d' := d) (t' := t) (ch := []) un hok bare (fun b z => absurd z (by simp)), r, q⟩
end
def tCall (sp : Sp) (dvs : List V) (E : XK) (t : TA) : TE := fun σ H Q => t σ H fun vs H1 => sp (vs ++ dvs) H1 Q E
def tMeth (C : Addr) (m : Str) (sp : Sp) (dvs : List V) (E : XK) (ta : TE) (t : TA) : TE := fun σ H Q => ta σ H fun x H1 => ∃ a dx fs, x = .ref a ∧ H1 a = some (.ins C dx fs) ∧ fs.lookup m = none ∧
  t σ H1 fun vs H2 => sp (x :: (vs ++ dvs)) H2 Q E
def tMake (C : Addr) (sp : Sp) (dvs : List V) (E : XK) (t : TA) : TE := fun σ H Q => t σ H fun vs H1 => ∀ x dx, H1 x = none → H1 dx = none → dx ≠ x →
  sp (.ref x :: (vs ++ dvs)) (upd (upd H1 dx (.own x)) x (.ins C dx [])) (fun v H2 => v = .non ∧ Q (.ref x) H2) E
def Binds (K : PySem.W.Frag) (fd : FuncData) (ps : List Str) (ds : List Value) : Prop :=
  ∀ (s : Shared) (us : List Value), K.In s.heap → (us ++ ds).length = ps.length → BindsTo s fd ⟨us, []⟩ (ps.zip (us ++ ds))
theorem Binds.all {K : PySem.W.Frag} {fd : FuncData} {ps : List Str} (h : ∀ us : List Value, us.length = ps.length → bindArgs fd ⟨us, []⟩ = pure (ps.zip us)) : Binds K fd ps [] := fun s us _ hl => by
  rw [List.append_nil] at hl ⊢
  exact .of_eq (h us hl)
def Passes (CX : CXT) (X : Cx) (E : XK) : Prop := ∀ (pins : List (Addr × Obj)) (σ : St) (H : Hp) (s : Shared) (e : Value) (s' : Shared), Inv X pins σ H s → CX X.stack H s E e s' → X.xe e s'
section
variable {X : Cx} {CX : CXT} {k : Nat} {f C : Addr} {fd : FuncData} {ps : List Str} {sp : Sp} {dvs : List V} {ds : List Value} {E : XK} {x m : Str} {p pos apos : Pos} {e o : Expr} {es : List Expr} {ta : TE} {t : TA}
theorem run_fn {pins : List (Addr × Obj)} {σ : St} {H : Hp} {s : Shared} {Q : VK} {us : List Value} {vs : List V} (F : FnOk X.prog X.w X.K X.mg X.base CX k f fd ps sp) (hr : Room k X.A) (hb : Binds X.K fd ps ds) (hd : Vals dvs ds) (hx : Passes CX X E)
    (I : Inv X pins σ H s) (r : Vals vs us) (h : sp (vs ++ dvs) H Q E) : wpAny (model X.prog X.w) X.A (call (.ref f) us) (EP X pins σ Q) X.xe s := by
  have r2 : Vals (vs ++ dvs) (us ++ ds) := r.append hd
  have hl : (us ++ ds).length = ps.length := by rw [← r2.length]; exact F.len _ _ _ _ h
  refine wpAny_call (codeAny_mono (F.run X.A X.stack s H ⟨us, []⟩ (us ++ ds) (vs ++ dvs) Q E hr I.env0 (hb s us I.kIn hl) r2 h) fun r s' hq => ?_)
  cases r with
  | error e => exact hx pins σ H s e s' I hq
  | ok fl =>
    cases fl with
    | ret u => exact I.after hq
    | next => exact False.elim hq
    | brk => exact False.elim hq
    | cont => exact False.elim hq
theorem pe_call (F : FnOk X.prog X.w X.K X.mg X.base CX k f fd ps sp) (hr : Room k X.A) (hg : Gl X x) (hm : X.mg x = some (.ref f)) (hk : PySem.W.keepIn X.K (.ref f) = true) (hb : Binds X.K fd ps ds) (hd : Vals dvs ds) (hx : Passes CX X E)
    (ha : PA X (e :: es) t) (hdb : (x == ("__debug__" : Str)) = false := by decide) (he : starEach (e :: es) X.env = (false, eval e X.env) :: starEach es X.env := by rfl) (hpl : (backTo pos (starEach es X.env)).any (·.1) = false := by rfl) :
    PE X (.Call (.Name x p) (e :: es) [] pos) (tCall sp dvs E t) := by
  intro pins s σ H Q I h
  refine wpAny_Call_Name_kw (ld_glob I hg hm ?_ hdb)
  refine PySem.W.callWith_K (h₀ := X.base) I.ok.mod.kin hk (thn (ha pos pins s σ H _ I h) fun us s1 ⟨vs, H1, I1, r, q⟩ => ⟨I1.kIn, ?_⟩) he hpl
  exact run_fn F hr hb hd hx I1 r q
structure Mk (K : PySem.W.Frag) (C f : Addr) : Prop where
  makes : PySem.W.makesIn K C = true
  init : PySem.W.findIn K (.ref C) "__init__" = some (some (.ref f))
  fn : PySem.W.isFn K (.ref f) = true
  kp : PySem.W.keepIn K (.ref C) = true
end
def PK (X : Cx) (kws : List Keyword) (t : TA) : Prop :=
  ∀ (pos : Pos) (pins : List (Addr × Obj)) (s : Shared) (σ : St) (H : Hp) (Q : List V → Hp → Prop), Inv X pins σ H s → t σ H Q → wpAny (model X.prog X.w) X.A (evalAll ((backToKw pos (keywordEach kws X.env)).map (·.2))) (AP X pins σ Q) X.xe s
section
variable {X : Cx} {CX : CXT} {k : Nat} {f C : Addr} {fd : FuncData} {ps ks : List Str} {sp : Sp} {E : XK} {x m : Str} {p pos apos kpos : Pos} {e o : Expr} {es : List Expr} {kws : List Keyword} {te ta : TE} {t tk : TA} {nm : Option Str}
structure KBinds (K : PySem.W.Frag) (fd : FuncData) (ps ks : List Str) (g : List Value → List Value → List Value) (gV : List V → List V → List V) : Prop where
  to : ∀ (s : Shared) (us ws : List Value), K.In s.heap → (g us ws).length = ps.length → BindsTo s fd ⟨us, ks.zip ws⟩ (ps.zip (g us ws))
  rel : ∀ {vs : List V} {us : List Value} {zs : List V} {ws : List Value}, Vals vs us → Vals zs ws → Vals (gV vs zs) (g us ws)
def tCallK (sp : Sp) (gV : List V → List V → List V) (E : XK) (t tk : TA) : TE := fun σ H Q => t σ H fun vs H1 => tk σ H1 fun zs H2 => sp (gV vs zs) H2 Q E
variable {g : List Value → List Value → List Value} {gV : List V → List V → List V}
end
structure FnScope (N P : List Str) (sc : Scope) : Prop where
  kind : sc.kind = .function
  co : sc.isCoroutine = false
  gen : sc.isGenerator = false
  nd : N.Nodup
  pre : N.take P.length = P
  par : ∀ x ∈ P, sc.names.lookup x = some .local ∨ sc.names.lookup x = some .cell
  nofree : ∀ y ∈ sc.names, y.2 ≠ .free
theorem bindL_out {kindOf : Str → Option NameKind} {x : Str} : ∀ {binds : List (Str × Value)} {m : Str → Option Value}, (∀ v, (x, v) ∉ binds) → bindL kindOf binds m x = m x
  | [], _, _ => rfl
  | (n, v) :: r, m, h => by
    unfold bindL
    rw [bindL_out fun w hw => h w (List.mem_cons_of_mem _ hw)]
    split
    · have : x ≠ n := by rintro rfl; exact h v List.mem_cons_self
      simp [this]
    · rfl
theorem bindC_out {kindOf : Str → Option NameKind} {x : Str} : ∀ {binds : List (Str × Value)} {m : Str → Option Value}, (∀ v, (x, v) ∉ binds) → bindC kindOf binds m x = m x
  | [], _, _ => rfl
  | (n, v) :: r, m, h => by
    unfold bindC
    rw [bindC_out fun w hw => h w (List.mem_cons_of_mem _ hw)]
    split
    · rfl
    · have : x ≠ n := by rintro rfl; exact h v List.mem_cons_self
      simp [this]
theorem bindL_get {kindOf : Str → Option NameKind} {x : Str} {v : Value} : ∀ {P : List Str} {vs : List Value} {i : Nat} {m : Str → Option Value}, P.Nodup → P[i]? = some x → vs[i]? = some v → kindOf x = some .local →
    bindL kindOf (P.zip vs) m x = some v
  | [], _, _, _, _, h, _, _ => by simp at h
  | _ :: _, [], _, _, _, _, h, _ => by simp at h
  | p :: P, w :: vs, 0, m, nd, h1, h2, hk => by
    simp at h1 h2; subst h1; subst h2
    show bindL kindOf ((p, w) :: P.zip vs) m p = _
    unfold bindL
    rw [bindL_out fun v hv => (List.nodup_cons.mp nd).1 (List.of_mem_zip hv).1, if_pos hk]
    simp
  | p :: P, w :: vs, i + 1, m, nd, h1, h2, hk => by
    show bindL kindOf ((p, w) :: P.zip vs) m x = _
    unfold bindL
    exact bindL_get (i := i) (List.nodup_cons.mp nd).2 (by simpa using h1) (by simpa using h2) hk
theorem bindC_get {kindOf : Str → Option NameKind} {x : Str} {v : Value} : ∀ {P : List Str} {vs : List Value} {i : Nat} {m : Str → Option Value}, P.Nodup → P[i]? = some x → vs[i]? = some v → kindOf x ≠ some .local →
    bindC kindOf (P.zip vs) m x = some v
  | [], _, _, _, _, h, _, _ => by simp at h
  | _ :: _, [], _, _, _, _, h, _ => by simp at h
  | p :: P, w :: vs, 0, m, nd, h1, h2, hk => by
    simp at h1 h2; subst h1; subst h2
    show bindC kindOf ((p, w) :: P.zip vs) m p = _
    unfold bindC
    rw [bindC_out fun v hv => (List.nodup_cons.mp nd).1 (List.of_mem_zip hv).1, if_neg hk]
    simp
  | p :: P, w :: vs, i + 1, m, nd, h1, h2, hk => by
    show bindC kindOf ((p, w) :: P.zip vs) m x = _
    unfold bindC
    exact bindC_get (i := i) (List.nodup_cons.mp nd).2 (by simpa using h1) (by simpa using h2) hk
def start (N : List Str) (vs : List V) : St := vs.map some ++ List.replicate (N.length - vs.length) none
def cxOf (CX : CXT) (P : Program) (w : World) (K : PySem.W.Frag) (mg : Str → Option Value) (base : Heap) (N : List Str) (qual : Str) (scope : Scope) (f : Addr) (cd : Value) (A : Around) (outer : List Env) (s : Shared) (H : Hp) (E : XK) : Cx where
  prog := P
  w := w
  K := K
  mg := mg
  base := base
  A := A.deeper (envOfC qual scope s.heap.objs.size f cd)
  N := N
  s₀ := s
  H₀ := H
  env := envOfC qual scope s.heap.objs.size f cd
  outer := outer
  stack := envOfC qual scope s.heap.objs.size f cd :: outer
  ex := []
  calm := true
  fn := fun _ => true
  pn := []
  xe := fun e s' => wpAny (model P w) (A.deeper (envOfC qual scope s.heap.objs.size f cd)) (leaving (envOfC qual scope s.heap.objs.size f cd) e) (fun _ s'' => CX outer H s E e s'') (fun e' s'' => CX outer H s E e' s'') s'
theorem cell_has {sc : Scope} {n : Nat} {x : Str} (h : sc.names.lookup x = some .cell) : ∃ c, (cellsFrom n sc.names []).lookup x = some c := by
  have q := PySem.W.cellsFrom_some sc.names n [] (.inl h)
  exact Option.isSome_iff_exists.mp q
theorem inv_start {CX : CXT} {P : Program} {w : World} {K : PySem.W.Frag} {mg : Str → Option Value} {base : Heap} {N ps : List Str} {qual : Str} {scope : Scope} {f : Addr} {cd : Value} {A : Around} {outer : List Env} {s s1 : Shared} {H : Hp} {E : XK} {us : List Value} {vs : List V}
    (S : FnScope N ps scope) (hd : A.handled = none) (e0 : Env0 P w K mg base A outer s H) (hl : vs.length = ps.length) (r : Vals vs us)
    (x : InCallC s s.heap.objs.size (bindL (envOfC qual scope s.heap.objs.size f cd).kindOf (ps.zip us) fun _ => none) (cellsFrom (s.heap.objs.size + 1) scope.names []) (bindC (envOfC qual scope s.heap.objs.size f cd).kindOf (ps.zip us) fun _ => none) s1) :
    Inv (cxOf CX P w K mg base N qual scope f cd A outer s H E) [] (start N vs) H s1 := by
  have hpl : ps.length ≤ N.length := by have := congrArg List.length S.pre; rw [List.length_take] at this; omega
  obtain ⟨h1, tk, rfl, hk⟩ := x.done
  have noA : ∀ b : Addr, b ∉ (cxOf CX P w K mg base N qual scope f cd A outer s H E).ex := fun b z => absurd (show b ∈ ([] : List Addr) from z) (by simp)
  refine ⟨⟨e0.mod, S.kind, rfl, rfl, Nat.le_refl _, fun y z c h1 h2 => ?_, fun y hy => ?_, fun y c _ h => ?_, fun _ => hd, Around.frames_deeper e0.frames, .inr ⟨rfl, rfl⟩, fun b z => absurd z (noA b), e0.bs, e0.bsz, fun b _ _ => noA b, fun b z => absurd z (noA b), e0.funs, e0.frf⟩,
    rfl, e0.bare, Un.kept hk, ⟨_, x.toInCall.ns, fun i y v h1 h2 h3 => ?_⟩, fun y c h => ⟨_, x.cell y c h⟩, e0.hok.fresh (Nat.le_refl _), fun y c h => ?_, fun p hp => absurd (show p ∈ ([] : List (Addr × Obj)) from hp) (by simp), e0.hok.kept hk, ?_⟩
  · exact name_of_addr x.apart (PySem.mem_of_lookup h1) (PySem.mem_of_lookup h2)
  · have hy : scope.names.lookup y = some .cell ∨ scope.names.lookup y = some .free := hy
    rcases hy with hy | hy
    · exact cell_has hy
    · exact absurd rfl (S.nofree _ (PySem.mem_of_lookup hy))
  · exact Nat.le_of_lt (x.above y c (PySem.mem_of_lookup h))
  · have hi : i < vs.length := by
      unfold start at h2
      by_cases hi : i < vs.length
      · exact hi
      · rw [List.getElem?_append_right (by simpa using hi)] at h2
        rw [List.getElem?_replicate] at h2
        split at h2 <;> cases h2
    have ha : vs[i]? = some v := by
      unfold start at h2
      rw [List.getElem?_append_left (by simpa using hi), List.getElem?_map] at h2
      cases e : vs[i]? with
      | none => rw [e] at h2; cases h2
      | some a => rw [e] at h2; cases h2; rfl
    obtain ⟨u, hu, rv⟩ := r.get ha
    have hp : ps[i]? = some y := by
      rw [← S.pre, List.getElem?_take_of_lt (by omega)]; exact h1
    have ndP : ps.Nodup := by rw [← S.pre]; exact S.nd.sublist (List.take_sublist _ _)
    refine ⟨u, rv, ?_⟩
    rcases S.par y (List.mem_of_getElem? hp) with k | k
    · exact .inl ⟨k, bindL_get ndP hp hu k⟩
    · obtain ⟨c, e⟩ := cell_has (n := s.heap.objs.size + 1) k
      refine .inr ⟨.inl k, c, e, ?_⟩
      have q := x.cell y c e
      rw [bindC_get ndP hp hu (by show scope.names.lookup y ≠ _; rw [k]; decide)] at q
      exact q
  · exact e0.hok.fresh (Nat.le_of_lt (x.above y c (PySem.mem_of_lookup h)))
  · unfold start
    show _ = N.length
    rw [List.length_append, List.length_map, List.length_replicate]
    omega
theorem fn_of {CX : CXT} {P : Program} {w : World} {K : PySem.W.Frag} {mg : Str → Option Value} {base : Heap} {k : Nat} {f : Addr} {name qual : Str} {params : Arguments} {body : List Stmt} {scope : Scope} {dV kV doc pm cdv ct oc : Value} {an od : Option Addr}
    {osl : Array (Option Value)} {N ps : List Str} {sp : Sp} (lk : K.lookup f = some ⟨oc, od, .func (PySem.W.fnOf name qual params body scope dV kV doc pm an cdv ct), osl⟩) (hcd : PySem.W.codeIn K cdv qual = true) (S : FnScope N ps scope)
    (len : ∀ vs H Q E, sp vs H Q E → vs.length = ps.length)
    (hbody : ∀ (A : Around) (outer : List Env) (s : Shared) (H : Hp) (vs : List V) (Q : VK) (E : XK), Room k (A.deeper (envOfC qual scope s.heap.objs.size f cdv)) → sp vs H Q E →
      ∃ t, PSs (cxOf CX P w K mg base N qual scope f cdv A outer s H E) body t ∧ t { nx := fun _ H' => Q .non H', rt := Q } (start N vs) H) :
    FnOk P w K mg base CX (k + 1) f (PySem.W.fnOf name qual params body scope dV kV doc pm an cdv ct) ps sp := by
  refine ⟨len, fun A outer s H args us vs Q E hr e0 hb r hsp => ?_⟩
  have hl := len _ _ _ _ hsp
  have KX : K.In s.heap := e0.mod.kin.keeps fun b o e => (e0.bs b o e).1
  have lim : s.heap.NoLimit := e0.mod.nolimit.keeps fun b o e => (e0.bs b o e).1
  have hkind : ∀ y ∈ ps.zip us, scope.names.lookup y.1 = some .local ∨ (scope.names.lookup y.1 = some .cell ∧ ((cellsFrom (s.heap.objs.size + 1) scope.names []).lookup y.1).isSome = true) := fun ⟨n, v⟩ hy => by
    rcases S.par n (List.of_mem_zip hy).1 with q | q
    · exact .inl q
    · exact .inr ⟨q, PySem.W.cellsFrom_some _ _ _ (.inl q)⟩
  refine codeAny_call_function hr.depth (KX _ _ lk) rfl S.co S.gen rfl (PySem.W.codeRec_of KX hcd) (hb _ _ _ _ ?_)
  refine wpAny_newFunctionEnv_cells S.kind hkind fun env he s1 x => ?_
  subst he
  refine ⟨lim.keeps x.toInCall.keep, codeAny_func ?_⟩
  obtain ⟨t, ht, hq⟩ := hbody A outer s H vs Q E (hr.deeper _) hsp
  have I : Inv (cxOf CX P w K mg base N qual scope f cdv A outer s H E) [] (start N vs) H s1 := inv_start S hr.hd e0 hl r x
  refine wpAny_mono (ht [] s1 (start N vs) H _ I hq) (fun fl s' hs => ?_) fun e s' hs => hs
  have fin : ∀ {σ' : St} {H' : Hp} {v : V} {u : Value}, Inv (cxOf CX P w K mg base N qual scope f cdv A outer s H E) [] σ' H' s' → RelV v u → Q v H' → CE outer P w H s Q u s' :=
    fun {σ' H' v u} J rv q => ⟨v, H', J.os, J.bare, J.base, J.hok, rv, q⟩
  cases fl with
  | ret u =>
    obtain ⟨v, σ', H', J, rv, q⟩ := hs
    exact fin J rv q
  | next =>
    obtain ⟨σ', H', J, q⟩ := hs
    exact fin (v := V.non) (u := Value.none) J rfl q
  | brk =>
    obtain ⟨_, _, _, q⟩ := hs
    exact False.elim q
  | cont =>
    obtain ⟨_, _, _, q⟩ := hs
    exact False.elim q
end L2
namespace L2
open PySem PySem.Spec PyProof.Rows
section
variable {X : Cx} {x : Str} {p pos : Pos} {e : Expr} {es : List Expr} {t : TA} {id T : String} {r : List V → Hp → VK → Prop}
def tCB (r : List V → Hp → VK → Prop) (t : TA) : TE := fun σ H Q => t σ H fun vs H1 => r vs H1 Q
theorem pe_callB (hc : CallR X (.builtin id) r) (hg : Gl X x) (hm : X.mg x = none) (hv : bootBuiltins x = some (.builtin id)) (ha : PA X (e :: es) t) (hn : x ≠ "__name__" := by decide) (hdb : (x == ("__debug__" : Str)) = false := by decide)
    (he : starEach (e :: es) X.env = (false, eval e X.env) :: starEach es X.env := by rfl) (hpl : (backTo pos (starEach es X.env)).any (·.1) = false := by rfl) : PE X (.Call (.Name x p) (e :: es) [] pos) (tCB r t) := by
  intro pins s σ H Q I h
  refine wpAny_Call_Name_kw (ld_blt I hg hm hv ?_ hn hdb)
  exact PyProof.Rows.callWith_builtin1 (thn (ha pos pins s σ H _ I h) fun us s1 ⟨vs, H1, I1, r1, q1⟩ => hc pins s1 σ H1 vs us Q I1 r1 q1) he hpl
theorem pe_callTy (hc : CallR X (.type T) r) (hg : Gl X x) (hm : X.mg x = none) (hv : bootBuiltins x = some (.type T)) (ha : PA X (e :: es) t) (hn : x ≠ "__name__" := by decide) (hdb : (x == ("__debug__" : Str)) = false := by decide)
    (he : starEach (e :: es) X.env = (false, eval e X.env) :: starEach es X.env := by rfl) (hpl : (backTo pos (starEach es X.env)).any (·.1) = false := by rfl) : PE X (.Call (.Name x p) (e :: es) [] pos) (tCB r t) := by
  intro pins s σ H Q I h
  refine wpAny_Call_Name_kw (ld_blt I hg hm hv ?_ hn hdb)
  exact PyProof.Rows.callWith_type1 (thn (ha pos pins s σ H _ I h) fun us s1 ⟨vs, H1, I1, r1, q1⟩ => hc pins s1 σ H1 vs us Q I1 r1 q1) he hpl
end
end L2
namespace HT
open PySem PyProof.Rows
def lexLt : List Int → List Int → Bool
  | [], [] => false
  | [], _ :: _ => true
  | _ :: _, [] => false
  | x :: xs, y :: ys => if x = y then lexLt xs ys else decide (x < y)
theorem eqAt_int (A : Around) (s : Shared) (a : Int) (t : Tok) (c : Int) (u : Tok) : ∃ e, SeqAt.EqAt A s (.int a t) (.int c u) e ∧ (e = true ↔ a = c) :=
  ⟨(a == c), SeqAt.EqAt.int_int a t c u, by simp⟩
theorem rcLt_int (A : Around) (s : Shared) (a : Int) (t : Tok) (c : Int) (u : Tok) (prog : Program) (w : World) (E : Value → Shared → Prop) (Q : Value → Shared → Prop) (h : Q (.bool (decide (a < c))) s) :
    wpAny (model prog w) A (richCompare .Lt (.int a t) (.int c u)) Q E s :=
  (PyProof.Rows.lt_int h : wpAny (model prog w) A (compareOp .Lt (.int a t) (.int c u)) Q E s)
section
open PySem.SeqAt
open PySem.AutoSeq1 (wpAny_loadPart')
open PySem.MeetsSeq PySem.MeetsSeq2 PySem.MeetsSeq3
end
section
variable {prog : Program} {w : World} {A : Around} {E : Value → Shared → Prop} {s : Shared}
theorem cat_tup {t b : Addr} {vs ws : List Value} {Q : Value → Shared → Prop} (ht : IsTup s.heap t vs.toArray) (hb : IsTup s.heap b ws.toArray) (hv : vs ≠ [])
    (h1 : ws = [] → Q (.ref t) s) (h2 : ws ≠ [] → Q (.ref s.heap.objs.size) { s with heap := s.heap.push { cls := .type "tuple", data := .seq (vs ++ ws).toArray } })
    (hsz : vs.length + ws.length ≤ sizeLine) : wpAny (model prog w) A (binaryOp .Add (.ref t) (.ref b)) Q E s := by
  obtain ⟨⟨cls, dd, data, sl⟩, ho, hc, n, hd⟩ := id ht
  obtain ⟨⟨cls2, dd2, data2, sl2⟩, ho2, hc2, n2, hd2⟩ := id hb
  simp only at hc hd hc2 hd2
  subst hc hd hc2 hd2
  have e : vs.toArray ++ ws.toArray = (vs ++ ws).toArray := by simp
  by_cases hw : ws = []
  · exact concat_meets ⟨_, ho, rfl⟩ ⟨_, ho2, rfl⟩ noFill_tuple_add seq_tuple_add PySem.F.slot_tuple_add PySem.F.entry_tuple_add (PySem.F.args_tuple_add_2 _ _)
      (tuple_addW1 t b vs.toArray ws.toArray n n2 dd dd2 sl sl2 (by simpa using hv) (by simp [hw])) ⟨ho, ho2, h1 hw⟩
  · refine concat_meets ⟨_, ho, rfl⟩ ⟨_, ho2, rfl⟩ noFill_tuple_add seq_tuple_add PySem.F.slot_tuple_add PySem.F.entry_tuple_add (PySem.F.args_tuple_add_2 _ _)
      (tuple_addW2 t b vs.toArray ws.toArray n n2 dd dd2 sl sl2 (by simpa using hv) (by simpa using hw) (by rw [List.size_toArray, List.size_toArray]; exact hsz)) ⟨ho, ho2, ?_⟩
    rw [e]
    exact h2 hw
def sIx (n d : Nat) : Option Int → Nat
  | none => d
  | some v => if v < 0 then (v + (n : Int)).toNat else min v.toNat n
theorem sIx_none (n d : Nat) : sIx n d none = d := rfl
theorem sIx_nat (n d k : Nat) : sIx n d (some (k : Int)) = min k n := by
  show (if (k : Int) < 0 then ((k : Int) + (n : Int)).toNat else min (k : Int).toNat n) = min k n
  rw [if_neg (by omega), Int.toNat_natCast]
theorem sIx_le (n d : Nat) (hd : d ≤ n) (o : Option Int) : sIx n d o ≤ n := by
  cases o with
  | none => exact hd
  | some v =>
    show (if v < 0 then (v + (n : Int)).toNat else min v.toNat n) ≤ n
    by_cases hv : v < 0
    · rw [if_pos hv]; omega
    · rw [if_neg hv]; exact Nat.min_le_right _ _
theorem clip_eq (v : Int) (n d : Nat) : (if v < 0 then max (v + (n : Int)) 0 else min v (n : Int)) = ((sIx n d (some v) : Nat) : Int) := by
  show (if v < 0 then max (v + (n : Int)) 0 else min v (n : Int)) = (((if v < 0 then (v + (n : Int)).toNat else min v.toNat n) : Nat) : Int)
  by_cases hv : v < 0
  · simp only [if_pos hv]; omega
  · simp only [if_neg hv]; omega
theorem adjust_gen (lo hi : Option Int) (n : Nat) : Builtin.Slice.sliceAdjust lo hi 1 (n : Int) = (((sIx n 0 lo : Nat) : Int), ((sIx n n hi : Nat) : Int)) := by
  have h1 : ¬ ((1 : Int) < 0) := by omega
  unfold Builtin.Slice.sliceAdjust
  simp only [h1, if_false]
  refine Prod.ext ?_ ?_
  · cases lo with
    | none => rfl
    | some v => exact clip_eq v n 0
  · cases hi with
    | none => rfl
    | some v => exact clip_eq v n n
theorem places_gen (i j : Nat) : Builtin.Slice.slicePlaces (i : Int) (j : Int) 1 = j - i := by
  unfold Builtin.Slice.slicePlaces
  have h1 : (1 : Int) > 0 := by omega
  simp only [h1, if_true, Int.ediv_one]
  split <;> omega
theorem slicePart_ {v : Value} {o : Option Int} {Q : Option Int → Shared → Prop} (p : IsPart v o) (h : Q o s) : wpAny (model prog w) A (Builtin.Slice.slicePartIndex v) Q E s := by
  cases p with
  | none => exact slicePart_none h
  | int i t => exact slicePart_int h
theorem sliceApplied_gen {sl : Addr} {vl vu : Value} {lo hi : Option Int} {n : Nat} {Q : Int × Int × Nat → Shared → Prop} (hs : s.heap.IsSliceOf sl vl vu .none) (pl : IsPart vl lo) (pu : IsPart vu hi)
    (h : Q (((sIx n 0 lo : Nat) : Int), 1, sIx n n hi - sIx n 0 lo) s) : wpAny (model prog w) A (Builtin.Slice.sliceApplied (.ref sl) (pure (n : Int))) Q E s := by
  obtain ⟨os, hos, hcs, hds⟩ := id hs
  unfold Builtin.Slice.sliceApplied Builtin.Slice.sliceFields
  refine wpAny_bind (wpAny_bind (wpAny_field hos hds (x := vl) rfl (wpAny_bind (wpAny_field hos hds (x := vu) rfl (wpAny_bind (wpAny_field hos hds (x := .none) rfl (wpAny_pure ?_)))))))
  refine wpAny_bind (slicePart_none ?_)
  show wpAny _ _ (if ((1 : Int) == 0) = true then _ else _) _ _ s
  rw [if_neg (by decide)]
  refine wpAny_bind (slicePart_ pl (wpAny_bind (slicePart_ pu (wpAny_bind (wpAny_pure ?_)))))
  show wpAny _ _ (match Builtin.Slice.sliceAdjust lo hi 1 (n : Int) with | (lo, hi) => pure (lo, (1 : Int), Builtin.Slice.slicePlaces lo hi 1)) _ _ s
  rw [adjust_gen lo hi n]
  show wpAny _ _ (pure (((sIx n 0 lo : Nat) : Int), (1 : Int), Builtin.Slice.slicePlaces ((sIx n 0 lo : Nat) : Int) ((sIx n n hi : Nat) : Int) 1)) _ _ s
  rw [places_gen]
  exact wpAny_pure h
theorem pick_gen (xs : Array Value) (i k : Nat) : ((List.range k).filterMap fun (m : Nat) => xs[((i : Int) + (m : Int) * 1).toNat]?).toArray = ((xs.toList.drop i).take k).toArray := by
  have e : (fun (m : Nat) => xs[((i : Int) + (m : Int) * 1).toNat]?) = fun m => xs[i + m]? := by
    funext m
    have : ((i : Int) + (m : Int) * 1).toNat = i + m := by omega
    rw [this]
  rw [e]
  have := pick_run xs i k
  rw [List.filterMap_map] at this
  have e2 : ((fun x => xs[x]?) ∘ fun x => i + x) = fun m => xs[i + m]? := rfl
  rw [e2] at this
  rw [this]
theorem getItem_tuple_cut {t sl : Addr} {items : Array Value} {vl vu : Value} {lo hi : Option Int} {Q : Value → Shared → Prop} (ht : IsTup s.heap t items) (hs : s.heap.IsSliceOf sl vl vu .none) (pl : IsPart vl lo) (pu : IsPart vu hi)
    (hw : ¬ (sIx items.size 0 lo = 0 ∧ sIx items.size items.size hi = items.size))
    (h : Q (.ref s.heap.objs.size) { s with heap := s.heap.push { cls := .type "tuple", data := .seq ((items.toList.drop (sIx items.size 0 lo)).take (sIx items.size items.size hi - sIx items.size 0 lo)).toArray } })
    (hsz : items.size ≤ sizeLine) : wpAny (model prog w) A (getItem (.ref t) (.ref sl)) Q E s := by
  have htake : sizeOk (.seq ((items.toList.drop (sIx items.size 0 lo)).take (sIx items.size items.size hi - sIx items.size 0 lo)).toArray) := by
    show ((items.toList.drop (sIx items.size 0 lo)).take (sIx items.size items.size hi - sIx items.size 0 lo)).toArray.size ≤ sizeLine
    rw [List.size_toArray, List.length_take, List.length_drop, Array.length_toList]
    omega
  have hj : sIx items.size items.size hi ≤ items.size := sIx_le _ _ (Nat.le_refl _) hi
  obtain ⟨os, hos, hcs, hds⟩ := id hs
  have hTs : s.TypeIs (.ref sl) "slice" := ⟨os, hos, hcs⟩
  unfold getItem
  try with_reducible refine wpAny_holding ?_
  first | refine wpAny_bind (wpAny_pure ?_) | skip
  refine wpAny_bind (wpAny_sequenceKey ht.typeIs (by decide) ?_)
  refine wpAny_bind (wpAny_callSpecial?_slot (name := Str.ofString "__getitem__") ht.typeIs PyProof.Rows.slot_tuple_getitem
    (wpAny_call_entry PyProof.Rows.slot_tuple_getitem ht.typeIs entry_tuple_getitem ?_ (args_tuple_getitem _ _)))
  show wpAny _ _ (Builtin.Tuple.tupleItemsOf (.ref t) >>= _) _ _ s
  refine wpAny_bind (tupleItemsOf_ ht ?_)
  refine wpAny_bind (wpAny_typeOf hTs ?_)
  rw [if_pos (by decide)]
  refine wpAny_bind (sliceApplied_gen hs pl pu ?_)
  have hno : ¬ ((((sIx items.size 0 lo : Nat) : Int) == 0 && (1 : Int) == 1 && (sIx items.size items.size hi - sIx items.size 0 lo) == items.size) = true) := by
    intro q
    rw [Bool.and_eq_true, Bool.and_eq_true] at q
    have q1 : ((sIx items.size 0 lo : Nat) : Int) = 0 := eq_of_beq q.1.1
    have q2 : sIx items.size items.size hi - sIx items.size 0 lo = items.size := eq_of_beq q.2
    exact hw ⟨by omega, by omega⟩
  show wpAny _ _ (if (((sIx items.size 0 lo : Nat) : Int) == 0 && (1 : Int) == 1 && (sIx items.size items.size hi - sIx items.size 0 lo) == items.size) = true then _ else _) _ _ s
  rw [if_neg hno, pick_gen]
  first
    | exact wpAny_bind (m := Builtin.Tuple.tupleExact _) (wpAny_newObj_type (wpAny_pure ⟨_, rfl, wpAny_pure h⟩) htake)
    | exact wpAny_bind (m := Builtin.Tuple.tupleExact _) (wpAny_newObj_type (wpAny_bind (wpAny_pure (wpAny_pure ⟨_, rfl, wpAny_pure h⟩))) htake)
    | exact wpAny_bind (wpAny_bind (m := Builtin.Tuple.tupleExact _) (wpAny_newObj_type (wpAny_pure (wpAny_pure ⟨_, rfl, wpAny_pure h⟩)) htake))
    | exact wpAny_bind (wpAny_bind (m := Builtin.Tuple.tupleExact _) (wpAny_newObj_type (wpAny_pure ⟨_, rfl, wpAny_pure h⟩) htake))
end
end HT
namespace L2
open PySem PySem.Spec PyProof.Rows
abbrev TO := St → Hp → (Option Int → Hp → Prop) → Prop
def PO (X : Cx) (e : Option Expr) (t : TO) : Prop :=
  ∀ (pins : List (Addr × Obj)) (s : Shared) (σ : St) (H : Hp) (Q : Option Int → Hp → Prop), Inv X pins σ H s → t σ H Q →
    wpAny (model X.prog X.w) X.A (evalPart e X.env) (fun u s' => ∃ o H', Inv X pins σ H' s' ∧ IsPart u o ∧ Q o H') X.xe s
def tNoPart : TO := fun _ H Q => Q none H
def tPart (t : TE) : TO := fun σ H Q => t σ H fun x H1 => ∃ i, x = .int i ∧ Q (some i) H1
section
variable {X : Cx} {e : Expr} {te : TE} {lo hi : Option Expr} {tl th : TO} {pos p2 : Pos}
theorem po_none : PO X none tNoPart := by
  intro pins s σ H Q I h
  rw [evalPart_none]
  exact wpAny_pure ⟨none, H, I, .none, h⟩
theorem po_some (h : PE X e te) : PO X (some e) (tPart te) := by
  intro pins s σ H Q I hw
  rw [evalPart_some]
  refine thn (h pins s σ H _ I hw) fun u s1 ⟨x, H1, I1, r1, q1⟩ => ?_
  obtain ⟨i, rfl, q⟩ := q1
  obtain ⟨t, rfl⟩ := r1
  exact ⟨some i, H1, I1, .int i t, q⟩
def SlR (X : Cx) (r : V → Option Int → Option Int → Hp → VK → Prop) : Prop :=
  ∀ (pins : List (Addr × Obj)) (s : Shared) (σ : St) (H : Hp) (x : V) (v vl vu : Value) (lo hi : Option Int) (sl : Addr) (Q : VK), Inv X pins σ H s → RelV x v → s.heap.IsSliceOf sl vl vu .none → IsPart vl lo → IsPart vu hi → r x lo hi H Q →
    ∃ T id, typeLookup (.type T) "__getitem__" = pure (some (.builtin id)) ∧ s.TypeIs v T ∧ wpAny (model X.prog X.w) X.A (getItem v (.ref sl)) (EP X pins σ Q) X.xe s
def tSl (r : V → Option Int → Option Int → Hp → VK → Prop) (te : TE) (tl th : TO) : TE := fun σ H Q => te σ H fun x H1 => tl σ H1 fun l H2 => th σ H2 fun u H3 => r x l u H3 Q
theorem pe_slice {r : V → Option Int → Option Int → Hp → VK → Prop} (hr : SlR X r) (he : PE X e te) (hl : PO X lo tl) (hu : PO X hi th) : PE X (.Subscript e (.Slice lo hi none p2) pos) (tSl r te tl th) := by
  intro pins s σ H Q I h
  refine Subscript_ (thn (he pins s σ H _ I h) fun v s1 ⟨x, H1, I1, r1, q1⟩ => ?_)
  refine wpAny_Slice (thn (hl pins s1 σ H1 _ I1 q1) fun vl s2 ⟨l, H2, I2, pl, q2⟩ => thn (hu pins s2 σ H2 _ I2 q2) fun vu s3 ⟨u, H3, I3, pu, q3⟩ => ?_)
  rw [evalPart_none]
  refine wpAny_pure ?_
  have I4 : Inv X pins σ H3 { s3 with heap := s3.heap.push { cls := .type "slice", data := .fields #[vl, vu, .none] } } := I3.kept (t' := s3.toks) fun b ob q => Heap.get?_push_of_some _ q
  obtain ⟨T, id, hT, ht, hg⟩ := hr pins { s3 with heap := s3.heap.push { cls := .type "slice", data := .fields #[vl, vu, .none] } } σ H3 x v vl vu l u s3.heap.objs.size Q I4 r1 (Heap.IsSliceOf.new ..) pl pu q3
  show wpAny (model X.prog X.w) X.A (subscriptTail e (.Slice lo hi none p2) v (.ref s3.heap.objs.size)) (EP X pins σ Q) X.xe { s3 with heap := s3.heap.push { cls := .type "slice", data := .fields #[vl, vu, .none] } }
  exact tail_any (ops := [.ref s3.heap.objs.size, v]) ht hT hg (by with_unfolding_all rfl)
def cutV (xs : List V) (lo hi : Option Int) : List V := (xs.drop (HT.sIx xs.length 0 lo)).take (HT.sIx xs.length xs.length hi - HT.sIx xs.length 0 lo)
theorem cutV_length (xs : List V) (lo hi : Option Int) : (cutV xs lo hi).length ≤ xs.length := by
  unfold cutV
  rw [List.length_take, List.length_drop]
  omega
def rSlT (K : PySem.W.Frag) : V → Option Int → Option Int → Hp → VK → Prop := fun x lo hi H Q => ∃ a xs, x = .ref a ∧ SqT K H a xs ∧
  ¬ (HT.sIx xs.length 0 lo = 0 ∧ HT.sIx xs.length xs.length hi = xs.length) ∧ ∀ p, H p = none → Q (.ref p) (upd H p (.tup (cutV xs lo hi)))
theorem sl_tup : SlR X (rSlT X.K) := by
  intro pins s σ H x v vl vu lo hi sl Q I rx hs pl pu h
  obtain ⟨a, xs, rfl, hx, hw, q⟩ := h
  cases rx
  obtain ⟨its, r, ht, hz⟩ := I.tuple hx
  have hlen : its.toArray.size = xs.length := by rw [List.size_toArray]; exact r.length.symm
  refine ⟨"tuple", _, PyProof.Rows.slot_tuple_getitem.lookup, ht.typeIs, ?_⟩
  refine HT.getItem_tuple_cut ht hs pl pu (by rw [hlen]; exact hw) ?_ (by rw [hlen]; exact hz)
  rw [hlen]
  refine ⟨.ref s.heap.objs.size, _, I.laid (t' := s.toks) (o := .tup (cutV xs lo hi)) (fun b ob q => Heap.get?_push_of_some _ q) (Nat.le_refl _) ?_, rfl, q _ (I.hok.fresh (Nat.le_refl _))⟩
  exact ⟨Nat.le_trans (cutV_length xs lo hi) hz, _, (r.drop (HT.sIx xs.length 0 lo)).take (HT.sIx xs.length xs.length hi - HT.sIx xs.length 0 lo), IsTupN.new _ _⟩
def rLtT (K : PySem.W.Frag) : R2 := fun x y H Q => ∃ a b ns ms, x = .ref a ∧ y = .ref b ∧ SqT K H a (ns.map V.int) ∧ SqT K H b (ms.map V.int) ∧ Q (.bl (HT.lexLt ns ms)) H
def rCatT (K : PySem.W.Frag) : R2 := fun x y H Q => ∃ a b xs ys, x = .ref a ∧ y = .ref b ∧ SqT K H a xs ∧ SqT K H b ys ∧ xs ≠ [] ∧ xs.length + ys.length ≤ sizeLine ∧
  (ys = [] → Q (.ref a) H) ∧ (ys ≠ [] → ∀ p, H p = none → Q (.ref p) (upd H p (.tup (xs ++ ys))))
theorem Vals.nil_iff {xs : List V} {us : List Value} (r : Vals xs us) : us = [] ↔ xs = [] := by
  cases r with
  | nil => simp
  | cons _ _ => simp
end
end L2
namespace L2
open PySem PySem.Spec PyProof.Rows
def ixN (n : Nat) (i : Int) : Option Nat := if 0 ≤ i then (if i < n then some i.toNat else none) else if -(n : Int) ≤ i then some (i + n).toNat else none
def atI {α : Type} (xs : List α) (i : Int) : Option α := (ixN xs.length i).bind fun j => xs[j]?
theorem ixN_seq {n : Nat} {i : Int} {j : Nat} (h : ixN n i = some j) : seqIndex? i n = some j ∧ j < n ∧ -(n : Int) ≤ i ∧ i < n := by
  unfold ixN at h
  by_cases h0 : 0 ≤ i
  · rw [if_pos h0] at h
    by_cases h1 : i < n
    · rw [if_pos h1] at h
      have e : i.toNat = j := Option.some.inj h
      exact ⟨by rw [seqIndex_of h0 h1, e], by omega, by omega, h1⟩
    · rw [if_neg h1] at h; cases h
  · rw [if_neg h0] at h
    by_cases h1 : -(n : Int) ≤ i
    · rw [if_pos h1] at h
      have e : (i + n).toNat = j := Option.some.inj h
      exact ⟨by rw [seqIndex_neg (by omega) h1, e], by omega, h1, by omega⟩
    · rw [if_neg h1] at h; cases h
theorem atI_get {α : Type} {xs : List α} {i : Int} {v : α} (h : atI xs i = some v) : ∃ j, seqIndex? i xs.length = some j ∧ xs[j]? = some v ∧ j < xs.length ∧ -(xs.length : Int) ≤ i ∧ i < xs.length := by
  unfold atI at h
  cases e : ixN xs.length i with
  | none => rw [e] at h; cases h
  | some j =>
    rw [e] at h
    obtain ⟨h1, h2, h3, h4⟩ := ixN_seq e
    exact ⟨j, h1, h, h2, h3, h4⟩
theorem atI_nat {α : Type} {xs : List α} {j : Nat} {v : α} (h : xs[j]? = some v) : atI xs (j : Int) = some v := by
  have hj : j < xs.length := (List.getElem?_eq_some_iff.mp h).1
  have e : ixN xs.length (j : Int) = some j := by
    unfold ixN
    rw [if_pos (by omega), if_pos (by omega)]; simp
  unfold atI; rw [e]; exact h
theorem atI_last {α : Type} (xs : List α) (v : α) : atI (xs ++ [v]) (-1) = some v := by
  have hl : (xs ++ [v]).length = xs.length + 1 := by simp
  have e : ixN (xs ++ [v]).length (-1) = some xs.length := by
    unfold ixN
    rw [hl, if_neg (by decide), if_pos (by omega)]
    congr 1
    omega
  unfold atI
  rw [e]
  show (xs ++ [v])[xs.length]? = some v
  simp
def PlainIx (b : Expr) : Prop := ∀ o i, subscripted b false o i = operate [o, i] (getItem o i)
def IxR (X : Cx) (r : R2) : Prop :=
  ∀ (value slice : Expr) (pins : List (Addr × Obj)) (s : Shared) (σ : St) (H : Hp) (x y : V) (v u : Value) (Q : VK), Inv X pins σ H s → RelV x v → RelV y u → r x y H Q →
    subscripted slice false v u = operate [v, u] (getItem v u) → wpAny (model X.prog X.w) X.A (subscriptTail value slice v u) (EP X pins σ Q) X.xe s
def MtR (X : Cx) (id : String) (r : V → List V → Hp → VK → Prop) : Prop :=
  ∀ (pins : List (Addr × Obj)) (s : Shared) (σ : St) (H : Hp) (x : V) (xs : List V) (v : Value) (us : List Value) (Q : VK), Inv X pins σ H s → RelV x v → Vals xs us → r x xs H Q →
    wpAny (model X.prog X.w) X.A (call (.builtin id) (v :: us)) (EP X pins σ Q) X.xe s
section
variable {X : Cx} {a b : Expr} {ta tb : TE} {pos : Pos}
theorem pe_ix {r : R2} (hr : IxR X r) (ha : PE X a ta) (hb : PE X b tb) (hs : PlainIx b) : PE X (.Subscript a b pos) (tOp r ta tb) := by
  intro pins s σ H Q I h
  exact Subscript_ (binT ha hb I h fun v u s2 x y H2 I2 rx ry q => hr a b pins s2 σ H2 x y v u Q I2 rx ry q (hs _ _))
def rIxL (K : PySem.W.Frag) : R2 := fun x y H Q => ∃ p xs i v, x = .ref p ∧ y = .int i ∧ SqL K H p xs ∧ atI xs i = some v ∧ Q v H
def rIxT (K : PySem.W.Frag) : R2 := fun x y H Q => ∃ p xs i v, x = .ref p ∧ y = .int i ∧ SqT K H p xs ∧ atI xs i = some v ∧ Q v H
def rIxS : R2 := fun x y H Q => ∃ z i c, x = .str z ∧ y = .int i ∧ z.length ≤ sizeLine ∧ atI z.cps.toList i = some c ∧ Q (.str ⟨#[c]⟩) H
theorem ix_list : IxR X (rIxL X.K) := by
  intro value slice pins s σ H x y v u Q I rx ry h hs
  obtain ⟨p, xs, i, z, rfl, rfl, hq, he, q⟩ := h
  cases rx
  obtain ⟨t, rfl⟩ := ry
  obtain ⟨its, r, pl, hz⟩ := I.list hq
  obtain ⟨j, h1, h2, h3, h4, h5⟩ := atI_get he
  obtain ⟨w, ew, rw'⟩ := r.get h2
  have hl := r.length
  have hn := line63
  have fin : EP X pins σ Q w s := ⟨z, H, I, rw', q⟩
  by_cases h0 : 0 ≤ i
  · have hj : i.toNat = j := by
      rw [seqIndex_of h0 h5] at h1
      exact Option.some.inj h1
    exact item_listR pl.isList h0 (by omega) (by rw [hj]; simpa using ew) fin hs
  · have hj : (i + (its.toArray.size : Int)).toNat = j := by
      rw [seqIndex_neg (by omega) h4] at h1
      rw [List.size_toArray, ← hl]
      exact Option.some.inj h1
    exact subscriptTail_builtinR (x := w) pl.isList.typeIs slot_list_getitem.lookup
      (wpAny_getItem_list_neg (Q := fun r s' => r = w ∧ EP X pins σ Q r s') pl.isList (by omega) (by rw [List.size_toArray] <;> omega) (by omega) (by rw [hj]; simpa using ew) ⟨rfl, fin⟩) hs
theorem ix_tup : IxR X (rIxT X.K) := by
  intro value slice pins s σ H x y v u Q I rx ry h hs
  obtain ⟨p, xs, i, z, rfl, rfl, hq, he, q⟩ := h
  cases rx
  obtain ⟨t, rfl⟩ := ry
  obtain ⟨its, r, pl, hz⟩ := I.tuple hq
  obtain ⟨j, h1, h2, h3, h4, h5⟩ := atI_get he
  obtain ⟨w, ew, rw'⟩ := r.get h2
  have hl := r.length
  have hn := line63
  have fin : EP X pins σ Q w s := ⟨z, H, I, rw', q⟩
  exact subscriptTail_builtinR (x := w) pl.typeIs slot_tuple_getitem.lookup
    (getItem_tuple (j := j) (Q := fun r s' => r = w ∧ EP X pins σ Q r s') pl (by omega) (by omega) (by rw [List.size_toArray, ← hl]; exact h1) (by simpa using ew) ⟨rfl, fin⟩) hs
theorem ix_str : IxR X rIxS := by
  intro value slice pins s σ H x y v u Q I rx ry h hs
  obtain ⟨z, i, c, rfl, rfl, hz, he, q⟩ := h
  obtain ⟨t, rfl⟩ := rx
  obtain ⟨t', rfl⟩ := ry
  obtain ⟨j, h1, h2, h3, h4, h5⟩ := atI_get he
  have hl : z.cps.toList.length = z.length := by simp [Str.length]
  rw [hl] at h1 h4 h5
  have hn := line63
  exact tail_any (typeIs_str s z t) slot_str_getitem.lookup (getItem_str (c := c) (by
    have e1 : decide (i < -(2 ^ 63 : Int)) = false := decide_eq_false (by omega)
    have e2 : decide (i ≥ 2 ^ 63) = false := decide_eq_false (by omega)
    rw [e1, e2, Bool.or_false]) (by rw [h1]; simpa using h2) ⟨.str ⟨#[c]⟩, H, I.tok _, ⟨_, rfl⟩, q⟩) hs
def rIx (K : PySem.W.Frag) : R2 := fun x y H Q => rIxL K x y H Q ∨ rIxT K x y H Q ∨ rIxS x y H Q
theorem mapSeq_set (its : List Value) (n j : Nat) (u : Value) : Obj.mapSeq (·.setIfInBounds j u) { cls := .type "list", data := .seq its.toArray n } = { cls := .type "list", data := .seq (its.set j u).toArray n } := by
  simp [Obj.mapSeq]
theorem Inv.lst {pins : List (Addr × Obj)} {σ : St} {H : Hp} {s : Shared} {p : Addr} {xs : List V} (I : Inv X pins σ H s) (h : H p = some (.lst xs)) :
    ∃ (its : List Value) (n : Nat), Vals xs its ∧ s.heap.get? p = some { cls := .type "list", data := .seq its.toArray n } ∧ xs.length ≤ sizeLine := by
  obtain ⟨z, its, n, r, e⟩ := I.hok p _ h
  exact ⟨its, n, r, e, z⟩
theorem Inv.lstUpd {pins : List (Addr × Obj)} {σ : St} {H : Hp} {s : Shared} {p : Addr} {xs ys : List V} {its its' : List Value} {n n' : Nat} {f : Obj → Obj} (I : Inv X pins σ H s) (h : H p = some (.lst xs))
    (ho : s.heap.get? p = some { cls := .type "list", data := .seq its.toArray n }) (hf : f { cls := .type "list", data := .seq its.toArray n } = { cls := .type "list", data := .seq its'.toArray n' }) (r : Vals ys its') (hz : ys.length ≤ sizeLine) (t : Nat) :
    Inv X pins σ (upd H p (.lst ys)) { s with heap := s.heap.update p f, toks := t } := by
  have e : (s.heap.update p f).get? p = some { cls := .type "list", data := .seq its'.toArray n' } := by
    rw [Heap.get?_update_self f ho (by rw [hf] <;> rfl), hf]
  refine I.write (x := p) (e := p) (by rw [h]; trivial) (.inl rfl) (fun b u hb q => (Heap.get?_update_other _ _ (Ne.symm hb)).trans q) ⟨_, e⟩ ?_
  exact ⟨hz, its', n', r, e⟩
def rSetL : V → V → V → Hp → (Hp → Prop) → Prop := fun o i v H Q => ∃ p xs k j, o = .ref p ∧ i = .int k ∧ H p = some (.lst xs) ∧ ixN xs.length k = some j ∧ Q (upd H p (.lst (xs.set j v)))
theorem set_list : PSet X rSetL := by
  intro pins s σ H o i v ov iv u Q I ro ri rv h
  obtain ⟨p, xs, k, j, rfl, rfl, hp, hj, q⟩ := h
  cases ro
  obtain ⟨t, rfl⟩ := ri
  obtain ⟨its, n, r, ho, hz⟩ := I.lst hp
  obtain ⟨h1, h2, h3, h4⟩ := ixN_seq hj
  have hl := r.length
  have hn := line63
  have I' : Inv X pins σ (upd H p (.lst (xs.set j v))) { s with heap := s.heap.update p (Obj.mapSeq (·.setIfInBounds j u)) } :=
    I.lstUpd hp ho (mapSeq_set its n j u) (r.set rv j) (by rw [List.length_set]; exact hz) s.toks
  by_cases h0 : 0 ≤ k
  · have hk : k.toNat = j := by
      rw [seqIndex_of h0 h4] at h1
      exact Option.some.inj h1
    exact PySem.W.ki_setAt ho h0 (by omega) (by rw [List.size_toArray, ← hl]; exact h4) (by rw [hk]; exact ⟨_, I', q⟩)
  · have hk : (k + (its.toArray.size : Int)).toNat = j := by
      rw [seqIndex_neg (by omega) h3] at h1
      rw [List.size_toArray, ← hl]
      exact Option.some.inj h1
    exact PySem.W.ki_setBack ho (by omega) (by rw [List.size_toArray, ← hl]; exact h3) (by omega) (by rw [hk]; exact ⟨_, I', q⟩)
theorem slice_bounds (lo hi : Option Int) (n : Nat) : (sliceBounds lo hi none n).1 = ((HT.sIx n 0 lo : Nat) : Int) ∧ (sliceBounds lo hi none n).2.1 = ((HT.sIx n n hi : Nat) : Int) ∧ (sliceBounds lo hi none n).2.2 = 1 := by
  refine ⟨?_, ?_, rfl⟩
  · cases lo with
    | none => simp [sliceBounds, HT.sIx]
    | some i =>
      simp only [sliceBounds, HT.sIx, Option.getD_none, show (1 : Int) > 0 by decide, if_true]
      by_cases h : i < 0
      · simp only [h, if_true] <;> omega
      · simp only [h, if_false] <;> omega
  · cases hi with
    | none => simp [sliceBounds, HT.sIx]
    | some i =>
      simp only [sliceBounds, HT.sIx, Option.getD_none, show (1 : Int) > 0 by decide, if_true]
      by_cases h : i < 0
      · simp only [h, if_true] <;> omega
      · simp only [h, if_false] <;> omega
theorem slicePick_cut (its : List Value) (lo hi : Option Int) : slicePick its.toArray lo hi none = ((its.drop (HT.sIx its.length 0 lo)).take (HT.sIx its.length its.length hi - HT.sIx its.length 0 lo)).toArray := by
  obtain ⟨h1, h2, h3⟩ := slice_bounds lo hi its.toArray.size
  unfold slicePick
  rw [h1, h2, h3]
  simp only [sliceRange_one, pick_run, List.size_toArray] <;> rfl
def rSlL (K : PySem.W.Frag) : V → Option Int → Option Int → Hp → VK → Prop := fun x lo hi H Q => ∃ a xs, x = .ref a ∧ SqL K H a xs ∧ ∀ p, H p = none → Q (.ref p) (upd H p (.lst (cutV xs lo hi)))
theorem sl_list : SlR X (rSlL X.K) := by
  intro pins s σ H x v vl vu lo hi sl Q I rx hs pl pu h
  obtain ⟨a, xs, rfl, hx, q⟩ := h
  cases rx
  obtain ⟨its, r, ht, hz⟩ := I.list hx
  have hlen := r.length
  refine ⟨"list", _, slot_list_getitem.lookup, ht.isList.typeIs, ?_⟩
  refine wpAny_getItem_list_slice ht.isList hs pl pu .none (by simp) ?_ (by rw [List.size_toArray] <;> omega)
  rw [slicePick_cut, ← hlen]
  refine ⟨.ref s.heap.objs.size, _, I.laid (t' := s.toks) (o := .lst (cutV xs lo hi)) (fun b ob q => Heap.get?_push_of_some _ q) (Nat.le_refl _) ?_, rfl, q _ (I.hok.fresh (Nat.le_refl _))⟩
  exact ⟨Nat.le_trans (cutV_length xs lo hi) hz, _, 0, (r.drop (HT.sIx xs.length 0 lo)).take (HT.sIx xs.length xs.length hi - HT.sIx xs.length 0 lo), Heap.get?_push_size _ rfl⟩
def flatV : V → Bool
  | .non => true
  | .bl _ => true
  | .int _ => true
  | .str _ => true
  | _ => false
def eqV : V → V → Bool
  | .non, .non => true
  | .bl a, .bl b => a == b
  | .bl a, .int b => (if a then 1 else 0) == b
  | .int a, .bl b => a == (if b then 1 else 0)
  | .int a, .int b => a == b
  | .str a, .str b => a == b
  | _, _ => false
theorem eqAt_V {A : Around} {s : Shared} {y x : V} {u v : Value} (ry : RelV y u) (rx : RelV x v) (fy : flatV y = true) (fx : flatV x = true) : SeqAt.EqAt A s u v (eqV y x) := by
  cases y with
  | non =>
    cases ry
    cases x with
    | non => cases rx; exact SeqAt.EqAt.same _
    | bl b => cases rx; exact SeqAt.EqAt.none_bool b
    | int b => obtain ⟨t, rfl⟩ := rx; exact SeqAt.EqAt.none_int b t
    | str b => obtain ⟨t, rfl⟩ := rx; exact SeqAt.EqAt.none_str b t
    | _ => exact absurd (show false = true from fx) Bool.false_ne_true
  | bl a =>
    cases ry
    cases x with
    | non => cases rx; exact SeqAt.EqAt.bool_none a
    | bl b => cases rx; exact SeqAt.EqAt.bool_bool a b
    | int b => obtain ⟨t, rfl⟩ := rx; exact SeqAt.EqAt.bool_int a b t
    | str b => obtain ⟨t, rfl⟩ := rx; exact SeqAt.EqAt.bool_str a b t
    | _ => exact absurd (show false = true from fx) Bool.false_ne_true
  | int a =>
    obtain ⟨t', rfl⟩ := ry
    cases x with
    | non => cases rx; exact SeqAt.EqAt.int_none a t'
    | bl b => cases rx; exact SeqAt.EqAt.int_bool a t' b
    | int b => obtain ⟨t, rfl⟩ := rx; exact SeqAt.EqAt.int_int a t' b t
    | str b => obtain ⟨t, rfl⟩ := rx; exact SeqAt.EqAt.int_str a t' b t
    | _ => exact absurd (show false = true from fx) Bool.false_ne_true
  | str a =>
    obtain ⟨t', rfl⟩ := ry
    cases x with
    | non => cases rx; exact SeqAt.EqAt.str_none a t'
    | bl b => cases rx; exact SeqAt.EqAt.str_bool a t' b
    | int b => obtain ⟨t, rfl⟩ := rx; exact SeqAt.EqAt.str_int a t' b t
    | str b => obtain ⟨t, rfl⟩ := rx; exact SeqAt.EqAt.str_str a t' b t
    | _ => exact absurd (show false = true from fx) Bool.false_ne_true
  | _ => exact absurd (show false = true from fy) Bool.false_ne_true
def eqU (x : V) (u : Value) : Bool := match u with
  | .none => eqV .non x
  | .bool b => eqV (.bl b) x
  | .int i _ => eqV (.int i) x
  | .str z _ => eqV (.str z) x
  | _ => false
theorem eqU_of {x y : V} {u : Value} (r : RelV y u) (f : flatV y = true) : eqU x u = eqV y x := by
  cases y with
  | non => cases r; rfl
  | bl b => cases r; rfl
  | int i => obtain ⟨t, rfl⟩ := r; rfl
  | str z => obtain ⟨t, rfl⟩ := r; rfl
  | _ => exact absurd (show false = true from f) Bool.false_ne_true
theorem any_eqU {x : V} : ∀ {xs : List V} {us : List Value}, Vals xs us → xs.all flatV = true → us.any (eqU x) = xs.any fun y => eqV y x
  | _, _, .nil, _ => rfl
  | y :: xs, u :: us, .cons r t, f => by
    rw [List.all_cons, Bool.and_eq_true] at f
    rw [List.any_cons, List.any_cons, eqU_of r f.1, any_eqU t f.2]
theorem mem_eqAt {A : Around} {s : Shared} {x : V} {v : Value} (rx : RelV x v) (fx : flatV x = true) : ∀ {xs : List V} {us : List Value}, Vals xs us → xs.all flatV = true → ∀ u ∈ us, SeqAt.EqAt A s u v (eqU x u)
  | _, _, .nil, _ => fun u hu => by cases hu
  | y :: xs, u :: us, .cons r t, f => fun u' hu => by
    rw [List.all_cons, Bool.and_eq_true] at f
    rcases List.mem_cons.mp hu with rfl | hu
    · rw [eqU_of r f.1]; exact eqAt_V r rx f.1 fx
    · exact mem_eqAt rx fx t f.2 u' hu
def inV (x : V) (xs : List V) : Bool := xs.any fun y => eqV y x
def rIn (K : PySem.W.Frag) (neg : Bool) : R2 := fun x y H Q => ∃ p xs, y = .ref p ∧ (SqL K H p xs ∨ SqT K H p xs) ∧ flatV x = true ∧ xs.all flatV = true ∧ Q (.bl (if neg then !inV x xs else inV x xs)) H
theorem op_notIn_seq : OpR X (compareOp .NotIn) (rIn X.K true) := by
  intro pins s σ H x y v u Q I rx ry h
  obtain ⟨p, xs, rfl, hq, fx, fs, q⟩ := h
  cases ry
  rcases hq with hq | hq
  · obtain ⟨its, r, pl, hz⟩ := I.list hq
    refine SeqAt.notIn_listAt (eqU x) pl.isList (fun w hw => mem_eqAt rx fx r fs w (by simpa using hw)) ⟨.bl _, H, I, rfl, ?_⟩
    rw [show its.toArray.any (eqU x) = its.any (eqU x) by simp, any_eqU r fs]
    exact q
  · obtain ⟨its, r, pl, hz⟩ := I.tuple hq
    refine SeqAt.notIn_tupleAt (eqU x) pl (fun w hw => mem_eqAt rx fx r fs w (by simpa using hw)) ⟨.bl _, H, I, rfl, ?_⟩
    rw [show its.toArray.any (eqU x) = its.any (eqU x) by simp, any_eqU r fs]
    exact q
theorem call_len_seq : CallR X (.builtin "len") (fun xs H Q => ∃ p ys, xs = [.ref p] ∧ (SqL X.K H p ys ∨ SqT X.K H p ys) ∧ Q (.int ys.length) H) := by
  intro pins s σ H xs us Q I r h
  obtain ⟨p, ys, rfl, hq, q⟩ := h
  obtain ⟨u, rfl, rx⟩ := vals1 r
  cases rx
  have hn := line63
  rcases hq with hq | hq
  · obtain ⟨its, r', pl, hz⟩ := I.list hq
    have hlen := r'.length
    exact Calls.call_len_list pl.isList (by simp only [List.size_toArray] <;> omega) ⟨.int ys.length, H, I.tok _, ⟨s.toks + 1, by rw [List.size_toArray, hlen]⟩, q⟩
  · obtain ⟨its, r', pl, hz⟩ := I.tuple hq
    have hlen := r'.length
    exact len_tuple pl (by simp only [List.size_toArray] <;> omega) ⟨.int ys.length, H, I.tok _, ⟨s.toks + 1, by rw [List.size_toArray, hlen]⟩, q⟩
theorem call_list_of : CallR X (.type "list") (fun xs H Q => ∃ p ys, xs = [.ref p] ∧ (SqL X.K H p ys ∨ SqT X.K H p ys) ∧ ∀ l, H l = none → Q (.ref l) (upd H l (.lst ys))) := by
  intro pins s σ H xs us Q I r h
  obtain ⟨p, ys, rfl, hq, q⟩ := h
  obtain ⟨u, rfl, rx⟩ := vals1 r
  cases rx
  have fin : ∀ (its : List Value), Vals ys its → ys.length ≤ sizeLine → ∀ (h' : Heap) (c' : Nat), (∀ b o', s.heap.get? b = some o' → h'.get? b = some o') →
      h'.get? s.heap.objs.size = some { cls := .type "list", dict := none, data := .seq its.toArray c', slots := #[] } → EP X pins σ Q (.ref s.heap.objs.size) { s with heap := h' } := fun its r' hz h' c' kp e =>
    ⟨.ref s.heap.objs.size, _, I.laid (t' := s.toks) kp (Nat.le_refl _) (show ObjOk X.prog X.w _ h' _ (.lst ys) from ⟨hz, its, c', r', e⟩), rfl, q _ (I.hok.fresh (Nat.le_refl _))⟩
  rcases hq with hq | hq
  · obtain ⟨its, r', pl, hz⟩ := I.list hq
    have hlen := r'.length
    obtain ⟨o, ho, hc, n, hd⟩ := pl.isList
    exact call_list_seq p (.inl rfl) ho hc hd (fun h' c' kp e => fin its r' hz h' c' kp e) (by simp only [List.size_toArray] <;> omega)
  · obtain ⟨its, r', pl, hz⟩ := I.tuple hq
    have hlen := r'.length
    obtain ⟨o, ho, hc, n, hd⟩ := pl
    exact call_list_seq p (.inr rfl) ho hc hd (fun h' c' kp e => fin its r' hz h' c' kp e) (by simp only [List.size_toArray] <;> omega)
theorem call_tuple_of : CallR X (.type "tuple") (fun xs H Q => ∃ p ys, xs = [.ref p] ∧ ((SqL X.K H p ys ∧ ∀ l, H l = none → Q (.ref l) (upd H l (.tup ys))) ∨ (SqT X.K H p ys ∧ Q (.ref p) H))) := by
  intro pins s σ H xs us Q I r h
  obtain ⟨p, ys, rfl, h⟩ := h
  obtain ⟨u, rfl, rx⟩ := vals1 r
  cases rx
  rcases h with ⟨hq, q⟩ | ⟨hq, q⟩
  · obtain ⟨its, r', pl, hz⟩ := I.list hq
    have hlen := r'.length
    refine call_tuple_list pl.isList (fun h' kp => ?_) (by simp only [List.size_toArray] <;> omega)
    have I1 : Inv X pins σ H { s with heap := h' } := I.kept (t' := s.toks) kp
    have I2 : Inv X pins σ (upd H h'.objs.size (.tup ys)) { s with heap := h'.push { cls := .type "tuple", data := .seq its.toArray } } :=
      I1.laid (t' := s.toks) (fun b o e => Heap.get?_push_of_some _ e) (Nat.le_refl _) (show ObjOk X.prog X.w _ _ _ (.tup ys) from ⟨hz, its, r', IsTupN.new _ _⟩)
    exact ⟨.ref h'.objs.size, _, I2, rfl, q _ (I1.hok.fresh (Nat.le_refl _))⟩
  · obtain ⟨its, r', pl, hz⟩ := I.tuple hq
    exact call_tuple_same pl ⟨.ref p, H, I, rfl, q⟩
def tyV (K : PySem.W.Frag) (T : String) (x : V) (H : Hp) : Prop := match x with
  | .str _ => T = "str"
  | .int _ => T = "int"
  | .ref p => (T = "list" ∧ ∃ xs, SqL K H p xs) ∨ (T = "tuple" ∧ ∃ o, K.lookup p = some o ∧ o.cls = .type "tuple" ∧ o.dict = none) ∨
      (T = "dict" ∧ ((∃ kvs, H p = some (.dK kvs)) ∨ ∃ kvs, H p = some (.dT kvs))) ∨ (T = "set" ∧ ∃ S n, H p = some (.set S n))
  | _ => False
theorem tyV_is {pins : List (Addr × Obj)} {σ : St} {H : Hp} {s : Shared} {T : String} {x : V} {v : Value} (I : Inv X pins σ H s) (r : RelV x v) (ty : tyV X.K T x H) :
    s.TypeIs v T ∧ ∀ a, v = .ref a → ∃ ob, s.heap.get? a = some ob ∧ ob.dict = none := by
  cases x with
  | str z =>
    obtain ⟨t, rfl⟩ := r
    cases (show T = "str" from ty)
    exact ⟨typeIs_str s z t, fun _ e => nomatch e⟩
  | int i =>
    obtain ⟨t, rfl⟩ := r
    cases (show T = "int" from ty)
    exact ⟨typeIs_int s i t, fun _ e => nomatch e⟩
  | ref p =>
    cases r
    rcases ty with ⟨rfl, xs, hq⟩ | ⟨rfl, o, hk, hc, hd⟩ | ⟨rfl, hk⟩ | ⟨rfl, S, n, hk⟩
    · obtain ⟨its, _, pl, _⟩ := I.list hq
      refine ⟨pl.isList.typeIs, fun a e => ?_⟩
      cases e
      obtain ⟨o, n, e, c, hd, _⟩ := pl
      exact ⟨o, e, hd⟩
    · refine ⟨⟨o, I.kIn p o hk, hc⟩, fun a e => ?_⟩
      cases e
      exact ⟨o, I.kIn _ o hk, hd⟩
    · have z : ∃ o, s.heap.get? p = some o ∧ o.ExactDict := by
        rcases hk with ⟨kvs, hk⟩ | ⟨kvs, hk⟩
        · obtain ⟨_, _, _, _, o, _, _, e, ex, _⟩ := I.hok p _ hk
          exact ⟨o, e, ex⟩
        · obtain ⟨_, _, _, _, o, _, _, e, ex, _⟩ := I.hok p _ hk
          exact ⟨o, e, ex⟩
      obtain ⟨o, e, ex⟩ := z
      refine ⟨⟨o, e, ex.1⟩, fun a e2 => ?_⟩
      cases e2
      exact ⟨o, e, ex.2.1⟩
    · obtain ⟨o, _, _, _, e, ex, _⟩ := I.hok p _ hk
      refine ⟨⟨o, e, ex.1⟩, fun a e2 => ?_⟩
      cases e2
      exact ⟨o, e, ex.2.1⟩
  | _ => exact False.elim ty
def tBM0 (K : PySem.W.Frag) (T : String) (r : V → List V → Hp → VK → Prop) (to : TE) : TE := fun σ H Q => to σ H fun x H1 => tyV K T x H1 ∧ r x [] H1 Q
def tBM (K : PySem.W.Frag) (T : String) (r : V → List V → Hp → VK → Prop) (to : TE) (t : TA) : TE := fun σ H Q => to σ H fun x H1 => tyV K T x H1 ∧ t σ H1 fun xs H2 => r x xs H2 Q
variable {o e : Expr} {es : List Expr} {to : TE} {t : TA} {name : Str} {apos cpos : Pos} {T id : String} {r : V → List V → Hp → VK → Prop}
theorem pe_bm0 (pa : PlainAttrs T) (slot : Slot T name id) (hty : typeOf (.builtin id) = pure (.type "method_descriptor")) (hm : MtR X id r) (ho : PE X o to)
    (hbase : attributeBase o name X.env (eval o X.env) = eval o X.env := by rfl) (hline : (apos.endLine == cpos.line) = true := by rfl) : PE X (.Call (.Attribute o name apos) [] [] cpos) (tBM0 X.K T r to) := by
  intro pins s σ H Q I h
  refine wpAny_Call_method0_late hbase hline (thn (ho pins s σ H _ I h) fun v s1 ⟨x, H1, I1, r1, ty, q1⟩ => ?_)
  obtain ⟨h1, h2⟩ := tyV_is I1 r1 ty
  exact ⟨T, id, pa, slot, hty, h1, h2, Calls.callWith_builtin rfl (PySem.evalArgs_none (hm pins s1 σ H1 x [] v [] Q I1 r1 .nil q1))⟩
theorem pe_bm (pa : PlainAttrs T) (slot : Slot T name id) (hty : typeOf (.builtin id) = pure (.type "method_descriptor")) (hm : MtR X id r) (ho : PE X o to) (ha : PA X (e :: es) t)
    (hbase : attributeBase o name X.env (eval o X.env) = eval o X.env := by rfl)
    (hfew : ((backTo cpos (starEach (e :: es) X.env)).all (fun x => !x.1) && (backToKw cpos (keywordEach [] X.env)).all (fun x => x.1.isSome)
      && decide ((e :: es).length + ([] : List Keyword).length + (if ([] : List Keyword).isEmpty then 0 else 1) < 30)) = true := by rfl)
    (hline : (apos.endLine == cpos.line) = true := by rfl) (hs : starEach (e :: es) X.env = (false, eval e X.env) :: starEach es X.env := by rfl) (hplain : (backTo cpos (starEach es X.env)).any (·.1) = false := by rfl) :
    PE X (.Call (.Attribute o name apos) (e :: es) [] cpos) (tBM X.K T r to t) := by
  intro pins s σ H Q I h
  refine wpAny_Call_method_late hbase hfew hline rfl (thn (ho pins s σ H _ I h) fun v s1 ⟨x, H1, I1, r1, ty, q1⟩ => ?_)
  obtain ⟨h1, h2⟩ := tyV_is I1 r1 ty
  refine ⟨T, id, pa, slot, hty, h1, h2, ?_⟩
  have hA := ha cpos pins s1 σ H1 _ I1 q1
  rw [hs] at hA ⊢
  refine Calls.callWith_builtin (by show (false || (backTo cpos (starEach es X.env)).any (·.1)) = false; rw [hplain] <;> rfl) (Calls.evalArgs_plain ?_)
  exact thn hA fun us s2 ⟨vs, H2, I2, r2, q2⟩ => hm pins s2 σ H2 x vs v us Q I2 r1 r2 q2
/- xs.append(e), list.index on a module's tuple .. are MtR facts of 06m -/
end
end L2
namespace L2
open PySem PySem.Spec PyProof.Rows
def MtM (X : Cx) (id : String) (r : V → List V → Hp → VK → Prop) : Prop :=
  ∀ (pins : List (Addr × Obj)) (s : Shared) (σ : St) (H : Hp) (x : V) (xs : List V) (v : Value) (us : List Value) (Q : VK), Inv X pins σ H s → RelV x v → Vals xs us → r x xs H Q →
    wpAny (model X.prog X.w) X.A (call (.builtin id) (v :: us)) (EP X pins σ Q) X.xe s
theorem Vals.one : ∀ {x : V} {us : List Value}, Vals [x] us → ∃ u, us = [u] ∧ RelV x u
  | _, _, .cons r .nil => ⟨_, rfl, r⟩
theorem Vals.zero : ∀ {us : List Value}, Vals [] us → us = []
  | _, .nil => rfl
theorem Vals.dropLast {xs : List V} {us : List Value} (h : Vals xs us) : Vals xs.dropLast us.dropLast := by
  induction h with
  | nil => exact .nil
  | cons r t ih =>
    cases t with
    | nil => exact .nil
    | cons q t' => exact .cons r ih
theorem Vals.reverse {xs : List V} {us : List Value} (h : Vals xs us) : Vals xs.reverse us.reverse := by
  induction h with
  | nil => exact .nil
  | cons r t ih => rw [List.reverse_cons, List.reverse_cons]; exact Vals.append ih (.cons r .nil)
theorem erase_last {α : Type} (l : List α) : l.eraseIdx (l.length - 1) = l.dropLast := by
  induction l with
  | nil => rfl
  | cons a r ih =>
    cases r with
    | nil => rfl
    | cons b r =>
      have e : (a :: b :: r).length - 1 = ((b :: r).length - 1) + 1 := by
        have h1 : (a :: b :: r).length = r.length + 2 := rfl
        have h2 : (b :: r).length = r.length + 1 := rfl
        omega
      rw [e, List.eraseIdx_cons_succ, ih]
      all_goals rfl
section
variable {X : Cx} {pins : List (Addr × Obj)} {σ : St} {H : Hp} {s : Shared} {l b : Addr} {xs ys zs : List V}
theorem Inv.lset {its its' : List Value} {n : Nat} {f : Array Value → Array Value} {t' : Nat} (I : Inv X pins σ H s) (hH : H l = some (.lst xs))
    (e : s.heap.get? l = some { cls := .type "list", data := .seq its.toArray n }) (hf : f its.toArray = its'.toArray) (hv : Vals ys its') (hz : ys.length ≤ sizeLine) :
    Inv X pins σ (upd H l (.lst ys)) { s with heap := s.heap.update l (Obj.mapSeq f), toks := t' } := by
  have q := PySem.IsL.update e f
  rw [hf] at q
  refine I.write (x := l) (e := l) (by rw [hH]; exact trivial) (.inl rfl) (fun b' u hb hu => (Heap.get?_update_other s.heap (Obj.mapSeq f) (Ne.symm hb)).trans hu) ⟨_, q⟩ ?_
  exact ⟨hz, its', _, hv, q⟩
theorem Inv.lnew {its : List Value} {t' : Nat} (I : Inv X pins σ H s) (hv : Vals ys its) (hz : ys.length ≤ sizeLine) :
    Inv X pins σ (upd H s.heap.objs.size (.lst ys)) { s with heap := s.heap.push { cls := .type "list", data := .seq its.toArray }, toks := t' } :=
  I.laid (fun _ _ q => Heap.get?_push_of_some _ q) (Nat.le_refl _) ⟨hz, its, 0, hv, Heap.get?_push_size _ rfl⟩
theorem Inv.fresh (I : Inv X pins σ H s) : H s.heap.objs.size = none := I.hok.fresh (Nat.le_refl _)
theorem Inv.lstM (I : Inv X pins σ H s) (hH : H l = some (.lst xs)) : xs.length ≤ sizeLine ∧ ∃ (its : List Value) (n : Nat), Vals xs its ∧ xs.length = its.length ∧ s.heap.get? l = some { cls := .type "list", data := .seq its.toArray n } := by
  obtain ⟨z, its, n, r, e⟩ := I.hok l _ hH
  exact ⟨z, its, n, r, r.length, e⟩
theorem notLongL {n : Nat} (h : n ≤ sizeLine) : Builtin.List.listTooLong n = false := by
  unfold Builtin.List.listTooLong
  exact decide_eq_false (by omega)
end
section
variable {X : Cx}
def rAppend : V → List V → Hp → VK → Prop := fun x vs H Q => ∃ l xs y, x = .ref l ∧ vs = [y] ∧ H l = some (.lst xs) ∧ xs.length < sizeLine ∧ Q .non (upd H l (.lst (xs ++ [y])))
theorem mt_append : MtM X "list.append" rAppend := by
  intro pins s σ H x vs v us Q I rx rv h
  obtain ⟨l, xs, y, rfl, rfl, hH, hz, q⟩ := h
  cases rx
  obtain ⟨u, rfl, ru⟩ := rv.one
  obtain ⟨z, its, n, r, hl, e⟩ := I.lstM hH
  refine call_meets F.slot_list_append ⟨_, e, rfl⟩ F.entry_list_append (F.args_list_append_2 _ _) (PySem.list_append l its.toArray n u (by rw [List.size_toArray]; omega)) ⟨e, ?_⟩
  refine ⟨.non, _, I.lset (its' := its ++ [u]) hH e (by simp) (r.append (.cons ru .nil)) ?_, rfl, q⟩
  rw [List.length_append, List.length_singleton]
  omega
def rExtend : V → List V → Hp → VK → Prop := fun x vs H Q => ∃ l b xs zs, x = .ref l ∧ vs = [.ref b] ∧ H l = some (.lst xs) ∧ H b = some (.lst zs) ∧ xs.length + zs.length ≤ sizeLine ∧ Q .non (upd H l (.lst (xs ++ zs)))
theorem mt_extend : MtM X "list.extend" rExtend := by
  intro pins s σ H x vs v us Q I rx rv h
  obtain ⟨l, b, xs, zs, rfl, rfl, hH, hB, hz, q⟩ := h
  cases rx
  obtain ⟨u, rfl, ru⟩ := rv.one
  cases ru
  obtain ⟨z, its, n, r, hl, e⟩ := I.lstM hH
  obtain ⟨z2, its2, n2, r2, hl2, e2⟩ := I.lstM hB
  have hsz : its.toArray.size + its2.toArray.size ≤ sizeLine := by rw [List.size_toArray, List.size_toArray]; omega
  have hlong : ¬ (!its.toArray.isEmpty && Builtin.List.listTooLong (its.toArray.size + its2.toArray.size)) = true := by
    rw [notLongL hsz, Bool.and_false]
    exact Bool.false_ne_true
  refine call_meets F.slot_list_extend ⟨_, e, rfl⟩ F.entry_list_extend (F.args_list_extend_2 _ _)
    (AutoSeq1.list_extend_list_list_0 l its.toArray n b its2.toArray n2 hlong (by rw [List.size_toArray]; omega) (by omega)) ⟨e, e2, ?_⟩
  refine ⟨.non, _, I.lset (its' := its ++ its2) hH e (by simp) (r.append r2) ?_, rfl, q⟩
  rw [List.length_append]
  omega
def rPop : V → List V → Hp → VK → Prop := fun x vs H Q => ∃ l xs y, x = .ref l ∧ vs = [] ∧ H l = some (.lst xs) ∧ xs[xs.length - 1]? = some y ∧ Q y (upd H l (.lst xs.dropLast))
theorem mt_pop : MtM X "list.pop" rPop := by
  intro pins s σ H x vs v us Q I rx rv h
  obtain ⟨l, xs, y, rfl, rfl, hH, hy, q⟩ := h
  cases rx
  have hus := rv.zero
  subst hus
  obtain ⟨z, its, n, r, hl, e⟩ := I.lstM hH
  obtain ⟨u, hu, ru⟩ := r.get hy
  have hy' : its.toArray[its.toArray.size - 1]? = some u := by
    show its.toArray[its.length - 1]? = some u
    rw [← Array.getElem?_toList, ← hl]
    exact hu
  refine call_meets F.slot_list_pop ⟨_, e, rfl⟩ F.entry_list_pop (F.args_list_pop_1 _) (MeetsSeq.list_pop_last l its.toArray n u hy' (by rw [List.size_toArray]; omega)) ⟨e, ?_⟩
  refine ⟨y, _, I.lset (its' := its.dropLast) hH e ?_ r.dropLast ?_, ru, q⟩
  · show its.toArray.eraseIdxIfInBounds (its.toArray.size - 1) = its.dropLast.toArray
    rw [List.size_toArray, List.eraseIdxIfInBounds_toArray, erase_last]
  · rw [List.length_dropLast]
    omega
def rPopAt : V → List V → Hp → VK → Prop := fun x vs H Q => ∃ l xs i k y, x = .ref l ∧ vs = [.int i] ∧ H l = some (.lst xs) ∧ -(2 ^ 63) ≤ i ∧ i < 2 ^ 63 ∧ seqIndex? i xs.length = some k ∧ xs[k]? = some y ∧ Q y (upd H l (.lst (xs.eraseIdx k)))
def rReverse : V → List V → Hp → VK → Prop := fun x vs H Q => ∃ l xs, x = .ref l ∧ vs = [] ∧ H l = some (.lst xs) ∧ Q .non (upd H l (.lst xs.reverse))
theorem mt_reverse : MtM X "list.reverse" rReverse := by
  intro pins s σ H x vs v us Q I rx rv h
  obtain ⟨l, xs, rfl, rfl, hH, q⟩ := h
  cases rx
  have hus := rv.zero
  subst hus
  obtain ⟨z, its, n, r, hl, e⟩ := I.lstM hH
  refine call_meets F.slot_list_reverse ⟨_, e, rfl⟩ F.entry_list_reverse (F.args_list_reverse_1 _) (AutoSeq1.list_reverse_list_0 l its.toArray n (by rw [List.size_toArray]; omega)) ⟨e, ?_⟩
  refine ⟨.non, _, I.lset (its' := its.reverse) hH e (by simp) r.reverse ?_, rfl, q⟩
  rw [List.length_reverse]
  omega
def rClear : V → List V → Hp → VK → Prop := fun x vs H Q => ∃ l xs, x = .ref l ∧ vs = [] ∧ H l = some (.lst xs) ∧ Q .non (upd H l (.lst []))
def rCat : R2 := fun x y H Q => ∃ l b xs zs, x = .ref l ∧ y = .ref b ∧ H l = some (.lst xs) ∧ H b = some (.lst zs) ∧ xs.length + zs.length ≤ sizeLine ∧ ∀ p, H p = none → Q (.ref p) (upd H p (.lst (xs ++ zs)))
theorem op_cat : OpR X (binaryOp .Add) rCat := by
  intro pins s σ H x y v u Q I rx ry h
  obtain ⟨l, b, xs, zs, rfl, rfl, hH, hB, hz, q⟩ := h
  cases rx
  cases ry
  obtain ⟨z, its, n, r, hl, e⟩ := I.lstM hH
  obtain ⟨z2, its2, n2, r2, hl2, e2⟩ := I.lstM hB
  refine PySem.P.add_list e e2 ?_ (by rw [List.size_toArray, List.size_toArray]; omega)
  have ea : its.toArray ++ its2.toArray = (its ++ its2).toArray := by simp
  rw [ea]
  exact ⟨.ref _, _, I.lnew (t' := s.toks) (r.append r2) (by rw [List.length_append]; omega), rfl, q _ I.fresh⟩
def rRep : R2 := fun x y H Q => ∃ l k xs, x = .ref l ∧ y = .int k ∧ H l = some (.lst xs) ∧ -(2 ^ 63) ≤ k ∧ k < 2 ^ 63 ∧ xs.length * k.toNat ≤ sizeLine ∧
  ∀ p, H p = none → Q (.ref p) (upd H p (.lst (List.replicate k.toNat xs).flatten))
end
section
variable {prog : Program} {w : World} {A : Around} {E : Value → Shared → Prop} {s : Shared}
theorem bounds_run {a c n : Nat} (hac : a ≤ c) (hc : c ≤ n) : sliceBounds (some (a : Int)) (some (c : Int)) none n = ((a : Int), (c : Int), 1) := by
  simp only [sliceBounds, Option.getD_none]
  have h1 : ¬ ((a : Int) < 0) := by omega
  have h2 : ¬ ((c : Int) < 0) := by omega
  simp only [h1, h2, if_false, show (1 : Int) > 0 by decide, if_true]
  congr 1
  · omega
  · congr 1; omega
set_option maxRecDepth 100000 in
theorem setItem_slice {l b sl : Addr} {items new : Array Value} {n n2 : Nat} {vl vu : Value} {a c : Nat} {Q : Unit → Shared → Prop}
    (e : s.heap.get? l = some { cls := .type "list", data := .seq items n }) (e2 : s.heap.get? b = some { cls := .type "list", data := .seq new n2 }) (hne : l ≠ b)
    (hs : s.heap.IsSliceOf sl vl vu .none) (pl : IsPart vl (some (a : Int))) (pu : IsPart vu (some (c : Int))) (hac : a ≤ c) (hc : c ≤ items.size)
    (hsz : items.size + new.size ≤ sizeLine) (h : Q () { s with heap := s.heap.update l (Obj.mapSeq fun xs => xs.extract 0 a ++ new ++ xs.extract c xs.size) }) :
    wpAny (model prog w) A (setItem (.ref l) (.ref sl) (.ref b)) Q E s := by
  have hl : s.heap.IsList l items := PySem.IsL.isList e
  have hb : s.heap.IsList b new := PySem.IsL.isList e2
  obtain ⟨os, hos, hcs, hds⟩ := id hs
  have hTs : s.TypeIs (.ref sl) "slice" := ⟨os, hos, hcs⟩
  have hstep : ¬ ((rawPart none == rawInt 0) = true) := Bool.false_ne_true
  have hsame : Builtin.List.listSameRef (.ref l) (.ref b) = false := by
    unfold Builtin.List.listSameRef
    exact beq_eq_false_iff_ne.mpr hne
  have hmax : (max (a : Int) (c : Int)).toNat = c := by omega
  have hz' : ((fun xs : Array Value => xs.extract 0 a ++ new ++ xs.extract c xs.size) items).size ≤ sizeLine + 1 := by
    simp only [Array.size_append, Array.size_extract]
    omega
  unfold setItem
  try with_reducible refine wpAny_holding ?_
  first | refine wpAny_bind (wpAny_pure ?_) | skip
  refine wpAny_bind (wpAny_sequenceKey hl.typeIs (by decide) ?_)
  refine wpAny_bind (wpAny_callSpecial?_slot (name := Str.ofString "__setitem__") hl.typeIs slot_list_setitem
    (wpAny_call_entry slot_list_setitem hl.typeIs entry_list_setitem ?_ (args_list_setitem _ _ _)))
  show wpAny _ _ (Builtin.List.listSubscript? (.ref sl) >>= _) _ _ s
  refine wpAny_bind ?_
  unfold Builtin.List.listSubscript?
  refine wpAny_bind (wpAny_specialOf hTs slice_no_index ?_)
  simp only [Option.isNone_none, if_true]
  refine wpAny_pure ?_
  show wpAny _ _ (typeOf (.ref sl) >>= _) _ _ s
  refine wpAny_bind (wpAny_typeOf hTs ?_)
  first
    | rw [if_neg (by decide)]
    | refine PySem.W.KFB.if_not (by decide) ?_
  rw [listSliceParts_eq]
  refine wpAny_bind (wpAny_bind (wpAny_field hos hds (x := .none) rfl (wpAny_bind (wpAny_listPart .none ?_))))
  rw [if_neg hstep]
  refine wpAny_bind (wpAny_field hos hds (x := vl) rfl (wpAny_bind (wpAny_listPart pl ?_)))
  refine wpAny_bind (wpAny_field hos hds (x := vu) rfl (wpAny_bind (wpAny_listPart pu (wpAny_pure ?_))))
  first
    | simp only [hsame, Bool.false_eq_true, if_false]
    | refine PySem.W.KFB.if_not hsame ?_
    | (dsimp only
       rw [if_neg (by rw [hsame]; exact Bool.false_ne_true)])
  refine wpAny_bind (m := Builtin.List.listAllItems (.ref b) "must assign iterable to extended slice") ?_
  unfold Builtin.List.listAllItems
  refine wpAny_bind (wpAny_typeOf hb.typeIs ?_)
  first
    | refine PySem.W.KFB.if_so (by decide) ?_
    | rw [if_pos (by decide)]
    | simp only [beq_self_eq_true, Bool.true_or, if_true]
  unfold Builtin.List.listItems
  refine wpAny_bind (wpAny_seqItems e2 rfl (wpAny_pure ?_))
  refine wpAny_bind (wpAny_bind (wpAny_seqItems e rfl (wpAny_pure ?_)))
  refine wpAny_bind (wpAny_of_eq ((sliceIndices_raw (some (a : Int)) (some (c : Int)) none items.size (by simp)).trans (congrArg (pure : Int × Int × Int → Sem (Int × Int × Int)) (bounds_run hac hc))) ?_)
  show wpAny _ _ (if ((1 : Int) == 1) = true then _ else _) _ _ s
  rw [if_pos (by decide)]
  refine wpAny_bind (wpAny_rule ?_)
  first
    | simp only [notLongL hsz, Bool.false_eq_true, if_false]
    | refine PySem.W.KFB.if_not (notLongL hsz) ?_
  first | refine wpAny_bind (wpAny_pure ?_) | skip
  show wpAny _ _ (updateSeq l (fun xs => xs.extract 0 ((a : Int)).toNat ++ new ++ xs.extract (max (a : Int) (c : Int)).toNat xs.size) >>= _) _ _ s
  rw [hmax, Int.toNat_natCast]
  refine wpAny_bind (wpAny_updateSeq (hz := Nat.le_trans (Nat.le_add_right _ _) hsz) (_hz' := hz') e rfl ?_)
  refine wpAny_bind (wpAny_letGo ?_)
  first
    | exact wpAny_bind (wpAny_pure (wpAny_pure ⟨.none, rfl, wpAny_pure h⟩))
    | exact wpAny_pure ⟨.none, rfl, wpAny_pure h⟩
end
section
variable {X : Cx}
end
end L2
namespace L2
open PySem PySem.Spec PyProof.Rows
section
variable {κ : Type} [DecidableEq κ]
def valV (kvs : List (κ × V)) (k : κ) : Option V := (kvs.find? fun kv => decide (kv.1 = k)).map (·.2)
def putK (kvs : List (κ × V)) (k : κ) (v : V) : List (κ × V) :=
  if (kvs.any fun kv => decide (kv.1 = k)) = true then kvs.map (fun kv => if kv.1 = k then (kv.1, v) else kv) else kvs ++ [(k, v)]
def dropK (kvs : List (κ × V)) (k : κ) : List (κ × V) := kvs.filter fun kv => decide (kv.1 ≠ k)
end
abbrev KT (H : Hp) : List (List Key × V) → List (List Key × Addr × Value) → Prop := Paired fun p q => p.1 = q.1 ∧ H q.2.1 = some (.tup (p.1.map kV)) ∧ RelV p.2 q.2.2
section
variable {P : Program} {w : World} {H : Hp} {h : Heap} {a : Addr}
end
def DGet (H : Hp) (a : Addr) (y : V) (r : Option V) : Prop :=
  (∃ kvs k, Rd H a (.dK kvs) ∧ y = kV k ∧ r = valV kvs k) ∨ ∃ kvs k b, Rd H a (.dT kvs) ∧ y = .ref b ∧ H b = some (.tup (k.map kV)) ∧ r = valV kvs k
def DPut (H : Hp) (a : Addr) (y v : V) (H' : Hp) : Prop :=
  (∃ kvs k, H a = some (.dK kvs) ∧ y = kV k ∧ kvs.length < sizeLine ∧ H' = upd H a (.dK (putK kvs k v))) ∨
  ∃ kvs k b, H a = some (.dT kvs) ∧ y = .ref b ∧ H b = some (.tup (k.map kV)) ∧ kvs.length < sizeLine ∧ H' = upd H a (.dT (putK kvs k v))
section
variable {X : Cx} {pins : List (Addr × Obj)} {σ : St} {H : Hp} {s : Shared} {a : Addr} {y v : V} {u r : Value} {o : Option V} {A : Around} {E : Value → Shared → Prop}
end
section
variable {X : Cx} {pins : List (Addr × Obj)} {σ : St} {H : Hp} {s : Shared} {a : Addr} {kvs : List (Key × V)} {k : Key} {u : Value} {A : Around} {E : Value → Shared → Prop}
end
def NoSl (i : Expr) : Prop := ∀ ov iv, subscripted i false ov iv = operate [ov, iv] (getItem ov iv)
def tDGet (td ty : TE) : TE := fun σ H Q => td σ H fun x H1 => ty σ H1 fun y H2 => ∃ a v, x = .ref a ∧ DGet H2 a y (some v) ∧ Q v H2
def tDIn (ty td : TE) : TE := fun σ H Q => ty σ H fun y H1 => td σ H1 fun x H2 => ∃ a o, x = .ref a ∧ DGet H2 a y o ∧ Q (.bl o.isSome) H2
def tDNotIn (ty td : TE) : TE := fun σ H Q => ty σ H fun y H1 => td σ H1 fun x H2 => ∃ a o, x = .ref a ∧ DGet H2 a y o ∧ Q (.bl (!o.isSome)) H2
def sDPut (td ty tv : TE) : TS := fun D σ H => tv σ H fun v H1 => td σ H1 fun x H2 => ty σ H2 fun y H3 => ∃ a H4, x = .ref a ∧ DPut H3 a y v H4 ∧ D.nx σ H4
def sDAug (td ty tv : TE) (rd : V → V → Hp → VK → Prop) : TS := fun D σ H => td σ H fun x H1 => ty σ H1 fun y H2 => ∃ a v, x = .ref a ∧ DGet H2 a y (some v) ∧
  tv σ H2 fun y2 H3 => rd v y2 H3 fun z H4 => ∃ H5, DPut H4 a y z H5 ∧ D.nx σ H5
def sDDel (td ty : TE) : TS := fun D σ H => td σ H fun x H1 => ty σ H1 fun y H2 => ∃ a kvs k, x = .ref a ∧ H2 a = some (.dK kvs) ∧ y = kV k ∧ (valV kvs k).isSome = true ∧ D.nx σ (upd H2 a (.dK (dropK kvs k)))
section
variable {X : Cx} {o i e value : Expr} {pos pos' tpos : Pos} {td ty tv : TE}
end
def tDNewK : TE := fun _ H Q => ∀ p, H p = none → Q (.ref p) (upd H p (.dK []))
def tDNewT : TE := fun _ H Q => ∀ p, H p = none → Q (.ref p) (upd H p (.dT []))
section
variable {X : Cx} {pos : Pos}
end
def tPairs : List (TE × TE) → St → Hp → (List (V × V) → Hp → Prop) → Prop
  | [], _, H, Q => Q [] H
  | (tk, tv) :: r, σ, H, Q => tk σ H fun x H1 => tv σ H1 fun y H2 => tPairs r σ H2 fun ps H3 => Q ((x, y) :: ps) H3
abbrev VV : List (V × V) → List (Value × Value) → Prop := Paired fun p q => RelV p.1 q.1 ∧ RelV p.2 q.2
def PPs (X : Cx) (pos : Pos) (keys : List (Option Expr)) (values : List Expr) (trs : List (TE × TE)) : Prop :=
  ∀ (pins : List (Addr × Obj)) (s : Shared) (σ : St) (H : Hp) (Q : List (V × V) → Hp → Prop), Inv X pins σ H s → tPairs trs σ H Q →
    wpAny (model X.prog X.w) X.A (evalPairs (pairTrees keys values X.env pos)) (fun vs s' => ∃ ps H', Inv X pins σ H' s' ∧ VV ps vs ∧ Q ps H') X.xe s
def mergeK (kvs more : List (Key × V)) : List (Key × V) := more.foldl (fun acc kv => putK acc kv.1 kv.2) kvs
def tDisp (trs : List (TE × TE)) : TE := fun σ H Q => ∀ p, H p = none → tPairs trs σ (upd H p (.dK [])) fun ps H2 => H2 p = some (.dK []) ∧ ∃ kvs : List (Key × V), ps = kvs.map (fun kv => (kV kv.1, kv.2)) ∧ kvs.length ≤ 15 ∧ Q (.ref p) (upd H2 p (.dK (mergeK [] kvs)))
structure M1 (X : Cx) (o : Expr) (m : Str) (apos : Pos) (e : Expr) (cpos : Pos) : Prop where
  base : attributeBase o m X.env (eval o X.env) = eval o X.env
  few : ((backTo cpos (starEach [e] X.env)).all (fun x => !x.1) && (backToKw cpos (keywordEach [] X.env)).all (fun x => x.1.isSome)
    && decide (([e] : List Expr).length + ([] : List Keyword).length + (if ([] : List Keyword).isEmpty then 0 else 1) < 30)) = true
  line : (apos.endLine == cpos.line) = true
  trees : backTo cpos (starEach [e] X.env) = [(false, eval e X.env)]
structure M2 (X : Cx) (o : Expr) (m : Str) (apos : Pos) (e f : Expr) (cpos : Pos) : Prop where
  base : attributeBase o m X.env (eval o X.env) = eval o X.env
  few : ((backTo cpos (starEach [e, f] X.env)).all (fun x => !x.1) && (backToKw cpos (keywordEach [] X.env)).all (fun x => x.1.isSome)
    && decide (([e, f] : List Expr).length + ([] : List Keyword).length + (if ([] : List Keyword).isEmpty then 0 else 1) < 30)) = true
  line : (apos.endLine == cpos.line) = true
  trees : backTo cpos (starEach [e, f] X.env) = [(false, eval e X.env), (false, eval f X.env)]
def IsD (H : Hp) (a : Addr) : Prop := (∃ kvs, Rd H a (.dK kvs)) ∨ ∃ kvs, Rd H a (.dT kvs)
section
variable {X : Cx} {pins : List (Addr × Obj)} {σ : St} {H : Hp} {s : Shared} {a : Addr} {y d : V} {u r : Value} {o : Option V} {A : Around} {E : Value → Shared → Prop}
end
def tDGet1 (td ty : TE) : TE := fun σ H Q => td σ H fun x H1 => ∃ a, x = .ref a ∧ IsD H1 a ∧ ty σ H1 fun y H2 => ∃ o, DGet H2 a y o ∧ Q (o.getD .non) H2
def tDGet2 (td ty tx : TE) : TE := fun σ H Q => td σ H fun x H1 => ∃ a, x = .ref a ∧ IsD H1 a ∧ ty σ H1 fun y H2 => tx σ H2 fun z H3 => ∃ o, DGet H3 a y o ∧ Q (o.getD z) H3
def tDPop1 (td ty : TE) : TE := fun σ H Q => td σ H fun x H1 => ∃ a, x = .ref a ∧ IsD H1 a ∧ ty σ H1 fun y H2 => ∃ kvs k v, H2 a = some (.dK kvs) ∧ y = kV k ∧ valV kvs k = some v ∧ Q v (upd H2 a (.dK (dropK kvs k)))
def tDPop2 (td ty tx : TE) : TE := fun σ H Q => td σ H fun x H1 => ∃ a, x = .ref a ∧ IsD H1 a ∧ ty σ H1 fun y H2 => tx σ H2 fun z H3 => ∃ kvs k, H3 a = some (.dK kvs) ∧ y = kV k ∧
  (∀ v, valV kvs k = some v → Q v (upd H3 a (.dK (dropK kvs k)))) ∧ (valV kvs k = none → Q z H3)
section
variable {X : Cx} {o e f : Expr} {apos cpos : Pos} {td ty tx : TE}
end
section
variable {X : Cx} {pins : List (Addr × Obj)} {σ : St} {H : Hp} {s : Shared} {a : Addr} {kvs : List (Key × V)} {A : Around} {E : Value → Shared → Prop}
end
section
variable {X : Cx} {pins : List (Addr × Obj)} {σ : St} {H : Hp} {s : Shared} {a : Addr} {y : V} {u : Value} {A : Around} {E : Value → Shared → Prop}
end
end L2
namespace Att
open PySem PySem.W PySem.Calls PyProof.Rows
theorem ints_of_wellAll {P : Params} {h : Heap} : ∀ (ns : List Int) (vs : List Value), WellAll P h vs (ns.map WData.int) → IntsAre vs ns := by
  intro ns
  induction ns with
  | nil =>
    intro vs w
    rw [List.map_nil] at w
    cases w
    exact .nil
  | cons n ns ih =>
    intro vs w
    rw [List.map_cons] at w
    cases w with
    | cons a b =>
      cases a
      exact .cons _ _ (ih _ b)
theorem script_of {l : OpenLaw} {n : Nat} (hn : l.most = some n) {P : Params} {h : Heap} {args : List WData} {vals : List Value}
    (hpre : l.row.toRowW.claim.pre args = true) (hwl : WellAll P h vals args) :
    ∃ a vs ns, vals = [Value.ref a] ∧ args = [WData.list (ns.map WData.int)] ∧ h.get? a = some { cls := .type "list", data := .seq vs.toArray } ∧ IntsAre vs ns ∧ ns.length ≤ n := by
  have hsh : WShape.hasAll [] args [.list .int] = true := (pre_splitW hpre).1
  have hc : l.pre.holds [] { args := args } = true := (pre_splitW hpre).2
  obtain ⟨d, r, rfl, h1, h2⟩ := hasAllW_cons hsh
  obtain rfl := hasAllW_nil h2
  obtain ⟨xs, rfl, h3⟩ := hasW_list h1
  obtain ⟨ns, rfl⟩ := items_int h3
  have hlen : ns.length ≤ n := by
    unfold OpenLaw.pre at hc
    have h4 : (WTm.not (.lt (.lit (.int (n : Int))) (.len (.arg 0)))).holds [] { args := [.list (ns.map .int)] } = true := by
      have h4 := (holds_andW hc).1
      rw [hn] at h4
      exact h4
    have h5 := condW_of h4 (w_not (w_lt w_lit (w_len_list (w_arg rfl))))
    rw [List.length_map] at h5
    refine Nat.le_of_not_lt fun q => ?_
    have q' : (n : Int) < ((ns.length : Nat) : Int) := by omega
    first
      | (rw [decide_eq_true q'] at h5; exact absurd h5 (by decide))
      | (simp at h5; omega)
  cases hwl with
  | cons w1 w2 =>
    cases w2
    cases w1 with
    | list ho hall => exact ⟨_, _, ns, rfl, rfl, ho, ints_of_wellAll ns _ hall, hlen⟩
theorem post_true (l : OpenLaw) (args : List WData) : l.row.toRowW.claim.post args (.bool true) args = true :=
  postW_of (r := l.row.toRowW) (X := (true == true))
    (show WShape.has [] (.bool true) .bool = true by first | rfl | decide | simp [WShape.has, WShape.arms, WShape.armsAll])
    (show (WTm.eq .res (.lit (.bool true))).value [] { args := args, res := some (.bool true), after := args } = some (.bool (true == true)) from w_eq_bool (w_res rfl) w_lit) rfl
theorem attach_call {l : OpenLaw} {n : Nat} {q : Program} {loose : List Str} {XP : (Str → Option Value) → Heap → Prop} {YP : World → Heap → Prop} {d : DefRec}
    (hn : l.most = some n) (hdf : d.params.defaults = [])
    (call : ∀ (w : World) (s₀ s₁ : Shared) (mg mb : Str → Option Value) (fa : Addr) (o : Obj) (pm cd doc : Value) (a : Addr) (vs : List Value) (ns : List Int),
      Ground q loose [] XP w s₀ mg mb s₁.heap → YP w s₁.heap →
      s₁.heap.get? fa = some o → o.data = .func (docDef d.name d.params d.body d.scope pm cd doc) → s₁.heap.CodeRec cd d.name → mg d.name = some (.ref fa) →
      s₁.heap.get? a = some { cls := .type "list", data := .seq vs.toArray } → IntsAre vs ns → ns.length ≤ n → s₁.gens = #[] →
      codeAny (model l.prog w) callerA (.call (.ref fa) ⟨[.ref a], []⟩) (fun r s' => r = .ok (.ret (.bool true)) ∧ OldK s₁.heap s'.heap ∧ s'.os = s₁.os ∧ AllBare s'.gens) s₁) :
    WalkO q loose XP YP l.row.toRowW d [] (fun f vs => PySem.call f vs) := by
  intro w s₀ s₁ mg mb G Y fa o pm cd doc dV kV ho hd hcd hD hmg hg args vals as hpre hlay hrd hwl hlo
  obtain rfl : dV = .none := Dflts.none hD hdf
  obtain rfl : kV = .none := Dflts.noKw hD
  obtain ⟨a, vs, ns, rfl, rfl, hobj, hints, hlen⟩ := script_of hn hpre hwl
  refine enter_call (codeAny_mono (call w s₀ s₁ mg mb fa o pm cd doc a vs ns G Y ho (fd_plain hd) hcd hmg hobj hints hlen hg) fun r s' hq => ?_)
  obtain ⟨rfl, h2, h3, h4⟩ := hq
  exact ⟨.inl ⟨.bool true, .bool true, [], rfl, fun _ => rfl, .bool true, post_true l _, fun _ => ⟨List.Pairwise.nil, fun _ hm => (nomatch hm)⟩⟩, h2, h3, h4⟩
section
variable {prog : Program} {w : World} {A : Around} {E : Value → Shared → Prop} {s : Shared} {K : Frag}
def noObjs (h : Heap) : Heap := { h with objs := #[] }
def ledger (h : Heap) (L d : Addr) : List (Addr × Obj) := (List.range h.objs.size).filterMap fun a => if a = L ∨ a = d then none else (h.get? a).map fun o => (a, o)
end
end Att
namespace L2
open PySem PySem.Spec PyProof.Rows
theorem vals_ints : ∀ {vs : List Value} {ns : List Int}, IntsAre vs ns → Vals (ns.map V.int) vs
  | _, _, .nil => .nil
  | _, _, .cons n t h => .cons ⟨t, rfl⟩ (vals_ints h)
def Only (H : Hp) : Prop := ∀ b, H b = none ∨ ∃ o xs, H b = some (.frz o (.lst xs))
theorem law_call {P : Program} {w : World} {K : PySem.W.Frag} {mg mb : Str → Option Value} {CX : CXT} {k : Nat} {fa a : Addr} {fd : FuncData} {x : Str} {sp : Sp} {s₁ : Shared} {vs : List Value} {ns : List Int}
    (KX : K.In s₁.heap) (hns : s₁.heap.Ns mainGlobals mg) (hb : s₁.heap.Ns builtinsNs mb) (hbb : ∀ x : Str, x ≠ "__name__" → mb x = bootBuiltins x) (hlim : s₁.heap.NoLimit) (hg : s₁.gens = #[])
    (ha : s₁.heap.get? a = some { cls := .type "list", data := .seq vs.toArray }) (hi : IntsAre vs ns) (hl : ns.length ≤ sizeLine) (hr : Room k callerA)
    (F : ∀ base : Heap, K.In base → base.Ns mainGlobals mg → FnOk P w K mg base CX k fa fd [x] sp) (hbind : ∀ (s : Shared) (u : Value), BindsTo s fd ⟨[u], []⟩ [(x, u)])
    (hsp : ∀ H : Hp, Only H → SqL K H a (ns.map V.int) → sp [.ref a] H (fun v _ => v = .bl true) fun _ _ _ => False)
    (hCX : ∀ H e s', CX [] H s₁ (fun _ _ _ => False) e s' → False) :
    codeAny (model P w) callerA (.call (.ref fa) ⟨[.ref a], []⟩) (fun r s' => r = .ok (.ret (.bool true)) ∧ OldK s₁.heap s'.heap ∧ s'.os = s₁.os ∧ AllBare s'.gens) s₁ := by
  have rv := vals_ints hi
  have lenV := hi.length
  -- from an abstract heap in which nothing but the script may be tracked
  have core : ∀ H : Hp, Only H → SqL K H a (ns.map V.int) → HOk P w H s₁.heap → (∀ b, H b ≠ none → b = a) → (H a ≠ none → K.lookup a = none) →
      codeAny (model P w) callerA (.call (.ref fa) ⟨[.ref a], []⟩) (fun r s' => r = .ok (.ret (.bool true)) ∧ OldK s₁.heap s'.heap ∧ s'.os = s₁.os ∧ AllBare s'.gens) s₁ := by
    intro H hO hS hok hA hK
    have base_of : ∀ {b : Addr} {o : Obj}, s₁.heap.get? b = some o → H b = none → (hidT s₁.heap H).get? b = some o := fun e n => hidT_get e n
    have noA : ∀ {b : Addr} {o : Obj} {es : Array DictEntry} {ep : Nat}, s₁.heap.get? b = some o → o.data = .dict es ep → H b = none := fun {b o es ep} e d => by
      cases q : H b with
      | none => rfl
      | some u =>
        have e' : b = a := hA b (by rw [q]; simp)
        subst e'
        rw [ha] at e; cases e
        have d' : Data.seq vs.toArray _ = Data.dict es ep := d
        cases d'
    have nsK : ∀ {b : Addr} {m : Str → Option Value}, s₁.heap.Ns b m → (hidT s₁.heap H).Ns b m := fun {b m} ⟨o, es, ep, e, d, r⟩ => ⟨o, es, ep, base_of e (noA e d), d, r⟩
    have hKb : K.In (hidT s₁.heap H) := fun b o e => base_of (KX b o e) (by
      cases q : H b with
      | none => rfl
      | some u =>
        have e' : b = a := hA b (by rw [q]; simp)
        subst e'
        rw [hK (by rw [q]; simp)] at e; cases e)
    have hM : Mod K mg (hidT s₁.heap H) := ⟨hKb, nsK hns, ⟨mb, nsK hb, hbb⟩, let ⟨mc, h1, h2⟩ := hlim; ⟨mc, nsK h1, h2⟩⟩
    have e0 : Env0 P w K mg (hidT s₁.heap H) callerA [] s₁ H := ⟨rfl, hM, fun b o e => of_hidT e, Nat.le_of_eq (hidT_size _ _), trivial, fun b hb => absurd (show b ∈ ([] : List Addr) from hb) (by simp), hok, .of_eq hg⟩
    refine codeAny_mono ((F _ hKb (nsK hns)).run callerA [] s₁ H ⟨[.ref a], []⟩ [.ref a] [.ref a] _ _ hr e0 (hbind s₁ (.ref a)) (.cons rfl .nil) (hsp H hO hS)) fun r s' h => ?_
    cases r with
    | error e => exact (hCX H e s' h).elim
    | ok fl =>
      cases fl with
      | next => exact False.elim h
      | brk => exact False.elim h
      | cont => exact False.elim h
      | ret u =>
        obtain ⟨v, H', os, bare, un, hok', r', q⟩ := h
        have q' : v = .bl true := q
        subst q'
        obtain rfl : u = Value.bool true := r'
        refine ⟨rfl, OldK.of_keep fun b o e => ?_, os, bare⟩
        cases q : H b with
        | none => exact un.keep b o e q (by intro z; exact absurd (show b ∈ ([] : List Addr) from z) (by simp)) (by simp)
        | some u =>
          rcases hO b with z | ⟨ob, xs, z⟩
          · rw [q] at z; cases z
          · have z2 := un.frzs b ob _ z
            obtain ⟨e1, _⟩ := hok b _ z
            obtain ⟨e2, _⟩ := hok' b _ z2
            rw [e] at e1; cases e1
            exact e2
  cases hk : K.lookup a with
  | some o =>
    -- the script is one of the module's own objects
    have e := KX a o hk
    rw [ha] at e
    cases e
    refine core (fun _ => none) (fun _ => .inl rfl) (.inr ⟨_, vs.toArray, _, hk, rfl, rfl, rfl, by rw [List.size_toArray, lenV]; exact hl, by simpa using rv⟩) (fun b u z => by have z' : (none : Option HO) = some u := z; cases z') (fun b z => absurd rfl z) fun z => absurd rfl z
  | none =>
    refine core (fun b => if b = a then some (.frz { cls := .type "list", data := .seq vs.toArray } (.lst (ns.map V.int))) else none) (fun b => ?_) (.inl (.inr ⟨{ cls := .type "list", data := .seq vs.toArray }, if_pos rfl⟩)) (fun b u z => ?_) (fun b z => ?_) fun _ => hk
    · by_cases hb : b = a
      · exact .inr ⟨_, _, if_pos hb⟩
      · exact .inl (if_neg hb)
    · by_cases hb : b = a
      · have z' := (if_pos hb).symm.trans z
        cases z'
        subst hb
        exact ⟨ha, by rw [List.length_map]; exact hl, vs, _, rv, ha⟩
      · have z' := (if_neg hb).symm.trans z
        cases z'
    · by_cases hb : b = a
      · exact hb
      · exact absurd (if_neg hb) z
end L2
namespace L2
open PySem PySem.Spec PyProof.Rows
abbrev KOf {K : PySem.W.Frag} {h : Heap} (_ : K.In h) : PySem.W.Frag := K
theorem walk_of {l : PySem.W.OpenLaw} {n k : Nat} {q : Program} {loose : List Str} {XP : (Str → Option Value) → Heap → Prop} {YP : World → Heap → Prop} {d : DefRec} {K : Params → PySem.W.Frag} {CX : World → CXT} {sp : World → Sp} {x : Str}
    (hn : l.most = some n) (hn2 : n ≤ sizeLine) (hdf : d.params.defaults = []) (hr : Room k callerA)
    (hY : ∀ (w : World) (h : Heap), YP w h → (K w.params).In h)
    (F : ∀ (w : World) (mg : Str → Option Value) (fa : Addr) (h : Heap), (K w.params).In h → h.Ns mainGlobals mg → mg d.name = some (.ref fa) →
      ∃ fd : FuncData, (∀ (s : Shared) (u : Value), BindsTo s fd ⟨[u], []⟩ [(x, u)]) ∧
        ∀ base : Heap, (K w.params).In base → base.Ns mainGlobals mg → FnOk l.prog w (K w.params) mg base (CX w) k fa fd [x] (sp w))
    (hsp : ∀ (w : World) (H : Hp) (a : Addr) (ns : List Int), ns.length ≤ n → Only H → SqL (K w.params) H a (ns.map V.int) → sp w [.ref a] H (fun v _ => v = .bl true) fun _ _ _ => False)
    (hCX : ∀ (w : World) (H : Hp) (s : Shared) (e : Value) (s' : Shared), CX w [] H s (fun _ _ _ => False) e s' → False) :
    PySem.W.WalkO q loose XP YP l.row.toRowW d [] (fun f vs => PySem.call f vs) := by
  refine Att.attach_call hn hdf fun w s₀ s₁ mg mb fa o pm cd doc a vs ns G Y ho hd hcd hmg hobj hints hlen hg => ?_
  have KX := hY w _ Y
  obtain ⟨fd, hb, hF⟩ := F w mg fa _ KX G.T.g hmg
  exact law_call KX G.T.g G.T.b G.T.builtins G.T.nolimit hg hobj hints (Nat.le_trans hlen hn2) hr hF hb (fun H hO hS => hsp w H a ns hlen hO hS) fun H e s' => hCX w H s₁ e s'
end L2
/- THE LAST THEOREM (shape; LID, My.* are yours):
   My.Adr: a structure of the addresses that your layer names (classes, functions); My.Txt K t: a structure (Prop) of the equations over K;
   My.txt_mk : {K} {implicit addresses ..} (e1 : nsIn K mainGlobals "law" = some (some (.ref f))) (e2 : K.lookup f = some ⟨oc, od, .func (fnOf "law" "law" params body scope dV kV doc pm an cdv ct), sl⟩) (e3 : codeIn K cdv "law" = true) .. : ∃ t, My.Txt K t
set_option maxRecDepth 100000 in
set_option maxHeartbeats 0 in
theorem PySem.Challenge.cw_LID_holds : PySem.Challenge.rw_LID.Holds := by
  w_on; o_law; k_head; (case hw => w_witness2)
  k_fill
  refine L2.walk_of (l := PySem.Challenge.rw_LID) (n := 63) (k := 40) (x := "script") (CX := fun w => ..) (sp := fun _ => My.sp_law) rfl (by decide) rfl ⟨rfl, by decide, by decide⟩ (fun w h Y => PySem.W.kIn_of Y) ?F ?S ?C
  case F =>
    intro w mg fa h KX G hmg
    have T : ∃ t, My.Txt (L2.KOf KX) t := by
      dsimp only [L2.KOf]                          -- K must stand as «<heap const> w.params» for k_is
      refine' My.txt_mk ?e1 ?e2 ?e3 ..
      (case e1 => PySem.W.k_is)                    -- in the order: a name -> its address -> its object -> its parts
      (case e2 => PySem.W.k_is)
      ..
    obtain ⟨t, T⟩ := T
    have e0 := hmg.symm.trans (PySem.W.mg_of KX G T.law)
    cases e0                                       -- fa is the law's own address
    exact ⟨_, fun s u => .of_eq rfl, fun base kb nb => My.law_fn T kb nb⟩     -- if «.of_eq rfl» comes too early: refine' ⟨_, ?b, fun base kb nb => My.law_fn T kb nb⟩; exact fun s u => .of_eq rfl
  case S => exact fun w H a ns hl hO hS => ..
  case C => exact ..
(the tactic k_is has no namespace: write k_is) -/
namespace L2
open PySem PySem.Spec PyProof.Rows
def inClass (s : Stmt) (j : Nat) : Stmt := match s with
  | .ClassDef _ _ _ body _ _ _ _ _ _ _ => body.getD j (.Pass ⟨0, 0, 0, 0⟩)
  | _ => .Pass ⟨0, 0, 0, 0⟩
def defArgs (s : Stmt) : Arguments := match s with
  | .FunctionDef _ a _ _ _ _ _ _ _ _ => a
  | _ => { posonlyargs := [], args := [], vararg := none, kwonlyargs := [], kw_defaults := [], kwarg := none, defaults := [] }
def defBody (s : Stmt) : List Stmt := match s with
  | .FunctionDef _ _ b _ _ _ _ _ _ _ => b
  | _ => []
def defScope (s : Stmt) : Scope := match s with
  | .FunctionDef _ _ _ _ _ _ sc _ _ _ => sc
  | _ => { kind := .function, names := [], isGenerator := false, isCoroutine := false }
abbrev CX0 : CXT := fun _ _ _ _ _ _ => False
abbrev E0 : XK := fun _ _ _ => False
theorem pass0 {X : Cx} : Passes CX0 X E0 := fun _ _ _ _ _ _ _ h => h.elim
structure Fun (K : PySem.W.Frag) (x qual : Str) (st : Stmt) (f : Addr) (fd : FuncData) : Prop where
  ex : ∃ (oc : Value) (od : Option Addr) (kV doc pm : Value) (an : Option Addr) (cdv ct : Value) (osl : Array (Option Value)),
    fd = PySem.W.fnOf x qual (defArgs st) (defBody st) (defScope st) .none kV doc pm an cdv ct ∧ K.lookup f = some ⟨oc, od, .func fd, osl⟩ ∧ PySem.W.codeIn K cdv qual = true
  kp : PySem.W.keepIn K (.ref f) = true
section
variable {P : Program} {w : World} {K : PySem.W.Frag} {mg : Str → Option Value} {base : Heap}
theorem Fun.ok {x qual : Str} {st : Stmt} {f : Addr} {fd : FuncData} {N ps : List Str} {k : Nat} {sp : Sp} (F : Fun K x qual st f fd) (S : FnScope N ps (defScope st)) (len : ∀ vs H Q E, sp vs H Q E → vs.length = ps.length)
    (hbody : ∀ (cdv : Value) (A : Around) (outer : List Env) (s : Shared) (H : Hp) (vs : List V) (Q : VK) (E : XK), Room k (A.deeper (envOfC qual (defScope st) s.heap.objs.size f cdv)) → sp vs H Q E →
      ∃ t, PSs (cxOf CX0 P w K mg base N qual (defScope st) f cdv A outer s H E).nox (defBody st) t ∧ t { nx := fun _ H' => Q .non H', rt := Q } (start N vs) H) : FnOk P w K mg base CX0 (k + 1) f fd ps sp := by
  obtain ⟨oc, od, kV, doc, pm, an, cdv, ct, osl, rfl, lk, hcd⟩ := F.ex
  refine fn_of lk hcd S len fun A outer s H vs Q E hr hsp => ?_
  obtain ⟨t, h, q⟩ := hbody cdv A outer s H vs Q E hr hsp
  exact ⟨t, h.nox, q⟩
theorem Fun.binds {x qual : Str} {st : Stmt} {f : Addr} {fd : FuncData} {ps : List Str} (F : Fun K x qual st f fd)
    (h : ∀ (kV doc pm : Value) (an : Option Addr) (cdv ct : Value) (us : List Value), us.length = ps.length → bindArgs (PySem.W.fnOf x qual (defArgs st) (defBody st) (defScope st) .none kV doc pm an cdv ct) ⟨us, []⟩ = pure (ps.zip us)) : Binds K fd ps [] := by
  obtain ⟨oc, od, kV, doc, pm, an, cdv, ct, osl, rfl, lk, hcd⟩ := F.ex
  exact .all (h kV doc pm an cdv ct)
theorem fun_mk {x qual : Str} {st : Stmt} {f : Addr} {oc : Value} {od an : Option Addr} {osl : Array (Option Value)} {kV doc pm cdv ct : Value} (l : K.lookup f = some ⟨oc, od, .func (PySem.W.fnOf x qual (defArgs st) (defBody st) (defScope st) .none kV doc pm an cdv ct), osl⟩)
    (c : PySem.W.codeIn K cdv qual = true) (k : PySem.W.keepIn K (.ref f) = true) : Fun K x qual st f (PySem.W.fnOf x qual (defArgs st) (defBody st) (defScope st) .none kV doc pm an cdv ct) := ⟨⟨oc, od, kV, doc, pm, an, cdv, ct, osl, rfl, l, c⟩, k⟩
end
theorem small1000 {n : Nat} (h : n ≤ 1000) : n < sizeLine := Nat.lt_of_le_of_lt h (by decide)
section
variable {X : Cx}
theorem pv (i : Nat) {x : Str} {pos : Pos} (hN : X.N[i]? = some x := by rfl) (hv : Vis X.env.scope x := by first | exact Or.inl rfl | exact Or.inr (Or.inl rfl) | exact Or.inr (Or.inr rfl)) (hd : (x == ("__debug__" : Str)) = false := by decide)
    (hcd : (x == ("__classdict__" : Str)) = false := by decide) : PE X (.Name x pos) (tVar i) := pe_var hN hv hd hcd
end
theorem iteF {A B : Prop} (h : B) : if false = true then A else B := by
  rw [if_neg Bool.false_ne_true]
  exact h
theorem iteT {A B : Prop} (h : A) : if true = true then A else B := by
  rw [if_pos rfl]
  exact h
theorem ite2 {c A B : Prop} [Decidable c] (h1 : c → A) (h2 : ¬ c → B) : if c then A else B := by
  by_cases h : c
  · rw [if_pos h]
    exact h1 h
  · rw [if_neg h]
    exact h2 h
def Same (H H' : Hp) : Prop := ∀ b o, H b = some o → H' b = some o
theorem Same.refl (H : Hp) : Same H H := fun _ _ h => h
theorem Same.trans {H H1 H2 : Hp} (a : Same H H1) (b : Same H1 H2) : Same H H2 := fun c o h => b c o (a c o h)
theorem Same.free {H H' : Hp} (e : Same H H') {l : Addr} (h : H' l = Option.none) : H l = Option.none := by
  cases q : H l with
  | none => rfl
  | some o =>
    rw [e l o q] at h
    cases h
theorem Same.seq {K : PySem.W.Frag} {H H' : Hp} {a : Addr} {xs : List V} (e : Same H H') (h : SqL K H a xs) : SqL K H' a xs := by
  rcases h with (h | ⟨o, h⟩) | h
  · exact .inl (.inl (e _ _ h))
  · exact .inl (.inr ⟨o, e _ _ h⟩)
  · exact .inr h
end L2
namespace L2
open PySem PySem.Spec PyProof.Rows
section
variable {X : Cx}
end
section
variable {κ : Type} [DecidableEq κ]
end
end L2
set_option maxHeartbeats 4000000
namespace Tn
def upto (n : Nat) : List Int := (List.range n).map fun (i : Nat) => (i : Int)
structure IsOrd (ns : List Int) : Prop where
  perm : ns.Perm (upto ns.length)
def backF (ns : List Int) : List Int := (List.range ns.length).map fun (w : Nat) => (ns.idxOf (w : Int) : Int)
def filled (ns : List Int) (i : Nat) : List Int := (List.range ns.length).map fun (w : Nat) => if ns.idxOf (w : Int) < i then (ns.idxOf (w : Int) : Int) else 0
end Tn
namespace Tn
open PySem
def rvO (tp : Addr) (i : Int) : Obj := { cls := .type "reversed", data := .fields #[.ref tp, rawInt i] }
def IsRv (h : Heap) (a tp : Addr) (i : Int) : Prop := ∃ o, h.get? a = some o ∧ o.cls = .type "reversed" ∧ o.data = .fields #[.ref tp, rawInt i]
section
variable {prog : Program} {w : World} {A : Around} {E : Value → Shared → Prop} {s : Shared}
end
end Tn
namespace Tn
open PySem
end Tn
namespace L2
open PySem PySem.Spec PyProof.Rows
section
variable {X : Cx}
theorem kit_same (K : PySem.W.Frag) (n : String) : PySem.W.kitOne K (.type n) (.type n) = some true := by
  unfold PySem.W.kitOne
  rw [if_pos (by simp)]
theorem call_isi : CallR X (.builtin "isinstance") (fun xs H Q => ∃ x t n b, xs = [x, .ty n] ∧ TyOf X.K H x t ∧ PySem.W.kitOne X.K t (.type n) = some b ∧ Q (.bl b) H) := by
  intro pins s σ H xs us Q I r h
  obtain ⟨x, t, n, b, rfl, ty, e, q⟩ := h
  obtain ⟨u, w', rfl, rx, ry⟩ := vals2 r
  obtain rfl : w' = Value.type n := ry
  exact isinst_ok I rx ty e fun tk => ⟨.bl b, H, I.tok _, rfl, q⟩
def eqVs : List V → List V → Bool
  | [], [] => true
  | x :: xs, y :: ys => eqV x y && eqVs xs ys
  | _, _ => false
def rEqT (K : PySem.W.Frag) : R2 := fun x y H Q => ∃ a b xs ys, x = .ref a ∧ y = .ref b ∧ SqT K H a xs ∧ SqT K H b ys ∧ xs.all flatV = true ∧ ys.all flatV = true ∧ Q (.bl (eqVs xs ys)) H
end
end L2
namespace Tn
open PySem PySem.Spec PyProof.Rows
section
variable {prog : Program} {w : World} {A : Around} {E : Value → Shared → Prop} {s : Shared}
theorem nextT_item {it tp : Addr} {k : Nat} {xs : Array Value} {v : Value} {Q : Value → Shared → Prop} (p1 : s.heap.IsTupleIter it tp k) (p2 : s.heap.IsTuple tp xs) (hv : xs[k]? = some v)
    (hQ : ∀ g, g.IsTupleIter it tp (k + 1) → Heap.SameBut it s.heap g → Q v { s with heap := g }) : wpAny (model prog w) A (Builtin.SmallTypes.nextOf (.ref it)) Q E s := by
  obtain ⟨o1, g1, c1, d1⟩ := id p1
  obtain ⟨o2, g2, _, n2, d2⟩ := p2
  unfold Builtin.SmallTypes.nextOf
  refine wpAny_bind (wpAny_callSpecial?_slot (name := Str.ofString "__next__") p1.typeIs F.slot_tuple_iterator_next (wpAny_call_entry F.slot_tuple_iterator_next p1.typeIs F.entry_tuple_iterator_next ?_ (F.args_tuple_iterator_next_1 _)))
  show wpAny _ _ (field (.ref it) 0 >>= _) _ _ _
  refine wpAny_bind (wpAny_field g1 d1 (x := .ref tp) rfl ?_)
  show wpAny _ _ (if (Value.ref tp == Value.none) = true then _ else _) _ _ _
  rw [if_neg (show ¬ ((Value.ref tp == Value.none) = true) from Bool.false_ne_true)]
  show wpAny _ _ (field (.ref it) 1 >>= _) _ _ _
  refine wpAny_bind (wpAny_field g1 d1 (x := .int k 0) rfl ?_)
  show wpAny _ _ (seqItems? (.ref tp) >>= _) _ _ _
  refine wpAny_bind (wpAny_seqItems g2 d2 ?_)
  simp only [Int.toNat_natCast, hv]
  refine wpAny_bind (wpAny_setField g1 d1 (by simp) (wpAny_pure ⟨v, rfl, wpAny_pure (hQ _ ?_ (Heap.SameBut.update ..))⟩))
  exact ⟨_, Heap.get?_update_self _ g1 (Obj.isFreed_of_fields (Obj.data_mapFields d1 _)), (Obj.cls_mapFields ..).trans c1, by
      rw [Obj.data_mapFields d1]; simp [rawInt]⟩
theorem nextT_end {it tp : Addr} {k : Nat} {xs : Array Value} {Q : Value → Shared → Prop} (hh : A.handled = none) (p1 : s.heap.IsTupleIter it tp k) (p2 : s.heap.IsTuple tp xs) (hv : xs[k]? = none)
    (hE : ∀ g e, Heap.ExtBut it s.heap g → (∃ o, g.get? e = some o ∧ o.cls = .type "StopIteration") → E (.ref e) { s with heap := g }) : wpAny (model prog w) A (Builtin.SmallTypes.nextOf (.ref it)) Q E s := by
  obtain ⟨o1, g1, c1, d1⟩ := id p1
  obtain ⟨o2, g2, _, n2, d2⟩ := p2
  unfold Builtin.SmallTypes.nextOf
  refine wpAny_bind (wpAny_callSpecial?_slot (name := Str.ofString "__next__") p1.typeIs F.slot_tuple_iterator_next (wpAny_call_entry F.slot_tuple_iterator_next p1.typeIs F.entry_tuple_iterator_next ?_ (F.args_tuple_iterator_next_1 _)))
  show wpAny _ _ (field (.ref it) 0 >>= _) _ _ _
  refine wpAny_bind (wpAny_field g1 d1 (x := .ref tp) rfl ?_)
  show wpAny _ _ (if (Value.ref tp == Value.none) = true then _ else _) _ _ _
  rw [if_neg (show ¬ ((Value.ref tp == Value.none) = true) from Bool.false_ne_true)]
  show wpAny _ _ (field (.ref it) 1 >>= _) _ _ _
  refine wpAny_bind (wpAny_field g1 d1 (x := .int k 0) rfl ?_)
  show wpAny _ _ (seqItems? (.ref tp) >>= _) _ _ _
  refine wpAny_bind (wpAny_seqItems g2 d2 ?_)
  simp only [Int.toNat_natCast, hv]
  refine wpAny_bind (wpAny_rule (wpAny_bind (wpAny_setField g1 d1 (by simp) ?_)))
  show wpAny _ _ (newExc (.type "StopIteration") [] >>= _) _ _ (_ : Shared)
  refine wpAny_bind ?_; simp only [newExc, newTuple]
  refine wpAny_bind (wpAny_newObj_type ?_ (by size_fits)); refine wpAny_bind (m := firstArgMember _ _) (wpAny_of_eq (a := Value.none) (by first | rfl | (simp only [firstArgMember]; rfl)) ?_)
  refine wpAny_newObj_type ?_ (by size_fits); simp only [raiseNew]
  refine wpAny_bind (wpAny_handled ?_); first | rw [show A.in1.handled = none from hh] | rw [hh]
  refine wpAny_bind (wpAny_pure (wpAny_throw ?_)); exact hE _ _ (((Heap.SameBut.update ..).extBut.push _).push _) ⟨_, Heap.get?_push_size _ rfl, rfl⟩
end
theorem tupIter_at {g g' : Heap} {it tp : Addr} {k : Nat} (p : g.IsTupleIter it tp k) (e : ∀ o, g.get? it = some o → g'.get? it = some o) : g'.IsTupleIter it tp k := let ⟨o, ho, r⟩ := p; ⟨o, e _ ho, r⟩
theorem tup_at {g g' : Heap} {tp : Addr} {xs : Array Value} (p : g.IsTuple tp xs) (e : ∀ o, g.get? tp = some o → g'.get? tp = some o) : g'.IsTuple tp xs := let ⟨o, ho, r⟩ := p; ⟨o, e _ ho, r⟩
theorem drawsT {prog : Program} {w : World} {A : Around} (hh : A.handled = none) (it tp : Addr) (hne : tp ≠ it) (xs : Array Value) :
    Draws prog w A it [it, tp] xs.size (fun k v => xs[k]? = some v) (fun k g => g.IsTupleIter it tp k ∧ g.IsTuple tp xs) where
  live := fun _ _ p => let ⟨o, ho, _⟩ := p.1; ⟨o, ho⟩
  frame := fun _ _ _ p hk => ⟨tupIter_at p.1 fun o e => hk it (by simp) o e, tup_at p.2 fun o e => hk tp (by simp) o e⟩
  item := fun k s Q E hk p hQ => nextT_item p.1 p.2 (v := xs[k]) (by simp [hk]) fun g q hs => hQ _ g s.toks (by simp [hk]) ⟨q, p.2.extBut hs.extBut hne⟩ hs
  done := fun s Q E p hE => nextT_end hh p.1 p.2 (by simp) hE
theorem enum_newT (tp : Addr) (xs : Array Value) (n : Nat) (dct : Option Addr) (sl : Array (Option Value)) :
    Meets (Builtin.«enumerate.__new__» ⟨[.type "enumerate", .ref tp], []⟩) (fun _ R s => s.heap.get? tp = some { cls := .type "tuple", dict := dct, data := .seq xs n, slots := sl } ∧
      R (.ok (.ret (.ref (s.heap.push { cls := .type "tuple_iterator", data := .fields #[.ref tp, .int 0 0] }).objs.size)))
        { s with heap := (s.heap.push { cls := .type "tuple_iterator", data := .fields #[.ref tp, .int 0 0] }).push { cls := .type "enumerate", data := .fields #[.none, .bool false, .ref s.heap.objs.size, rawInt 0, .none, .none] } }) :=
  .of_wp fun prog w A R s h => by
    obtain ⟨hp, g, d, tk, os⟩ := s; obtain ⟨q1, q2⟩ := h
    have hsub := sub_enumerate
    have qT : Heap.IsTuple (Shared.heap ⟨hp, g, d, tk, os⟩) tp xs := ⟨_, q1, rfl, n, rfl⟩
    wp_walk using AutoSeq1.wpAny_loadPart' q1
    refine wpAny_stack_any fun st => wpAny_pure ?_
    split
    · rename_i c _ _ _ _ _
      cases (c == Value.type "enumerate")
      · wp_walk using AutoSeq1.wpAny_loadPart' q1, wpAny_pyIter_tuple qT
        exact ⟨_, rfl, q2⟩
      · wp_walk using AutoSeq1.wpAny_loadPart' q1, wpAny_pyIter_tuple qT
        exact ⟨_, rfl, q2⟩
    · wp_walk using AutoSeq1.wpAny_loadPart' q1, wpAny_pyIter_tuple qT
      exact ⟨_, rfl, q2⟩
theorem call_enumT {prog : Program} {w : World} {A : Around} {E : Value → Shared → Prop} {s : Shared} {tp : Addr} {xs : Array Value} {Q : Value → Shared → Prop} (hT : s.heap.IsTuple tp xs)
    (h : ∀ g, IsEnum g (s.heap.objs.size + 1) s.heap.objs.size 0 .none → g.IsTupleIter s.heap.objs.size tp 0 → g.objs.size = s.heap.objs.size + 2 → (∀ b o, s.heap.get? b = some o → g.get? b = some o) → Q (.ref (s.heap.objs.size + 1)) { s with heap := g }) :
    wpAny (model prog w) A (call (.type "enumerate") [.ref tp]) Q E s := by
  obtain ⟨⟨c, dct, dt, sl⟩, q1, qc, n, qd⟩ := hT
  replace qc : c = .type "tuple" := qc
  replace qd : dt = .seq xs n := qd
  subst qc qd
  refine callType_new F.called_enumerate (by decide) (F.typeCall_enumerate_1 _) (F.newCall_enumerate_1 _) (fun obj => F.args_object_init_2 obj _) F.entry_enumerate_new (enum_newT tp xs n dct sl) ⟨q1, ?_⟩
  have hz : (s.heap.push { cls := .type "tuple_iterator", data := .fields #[.ref tp, .int 0 0] }).objs.size = s.heap.objs.size + 1 := Heap.size_push ..
  show _ ∧ _
  rw [hz]
  have he : IsEnum ((s.heap.push { cls := .type "tuple_iterator", data := .fields #[.ref tp, .int 0 0] }).push
      { cls := .type "enumerate", data := .fields #[.none, .bool false, .ref s.heap.objs.size, rawInt 0, .none, .none] }) (s.heap.objs.size + 1) s.heap.objs.size 0 .none := by
    have z := Heap.get?_push_size (s.heap.push { cls := .type "tuple_iterator", data := .fields #[.ref tp, .int 0 0] }) (o := { cls := .type "enumerate", data := .fields #[.none, .bool false, .ref s.heap.objs.size, rawInt 0, .none, .none] }) rfl
    rw [hz] at z; exact z
  exact ⟨⟨_, he, rfl⟩, h _ he ⟨_, Heap.get?_push_of_some _ (Heap.get?_push_size _ rfl), rfl, rfl⟩ (by rw [Heap.size_push, hz]) fun b o x => Heap.get?_push_of_some _ (Heap.get?_push_of_some _ x)⟩
end Tn
namespace L2
open PySem PySem.Spec PyProof.Rows
def Ite (K : PySem.W.Frag) (a : Addr) : It :=
  ⟨fun i H => ∃ xs x, SqT K H a xs ∧ xs[i]? = some x, fun i H x H' => ∃ p y, H p = none ∧ x = .ref p ∧ (∀ xs, SqT K H a xs → xs[i]? = some y) ∧ H' = upd H p (.tup [.int i, y]), fun i H => ∃ xs, SqT K H a xs ∧ xs.length = i⟩
section
variable {X : Cx}
theorem turn_enumT {P : Program} {w : World} {K : PySem.W.Frag} {elts : List Expr} {k : Nat} {tp : Pos} (a it e : Addr) (hei : e ≠ it) :
    Turn P w K (.Tuple elts k tp) (Ite K a) [e, it] e (fun i h => (∃ old, IsEnum h e it ((i : Nat) : Int) old) ∧ h.IsTupleIter it a i) where
  mem := by simp
  obj := fun i h st b hb => by
    rcases List.mem_cons.mp hb with z | z
    · subst z
      obtain ⟨⟨old, q⟩, _⟩ := st
      exact ⟨_, q, fun v z => by
        have z' : Data.fields _ = Data.cell v := z
        cases z'⟩
    · have z : b = it := by simpa using z
      subst z
      obtain ⟨_, o, q, _, d⟩ := st
      exact ⟨o, q, fun v z => by rw [d] at z; cases z⟩
  keep := fun i h h' st kp => ⟨let ⟨old, q⟩ := st.1; ⟨old, kp e (by simp) _ q⟩, Tn.tupIter_at st.2 fun o q => kp it (by simp) o q⟩
  item := by
    intro X hP hw hK hc i pins s σ H E I hf st hg
    subst hP hw hK
    obtain ⟨xs, x, hq, hx⟩ := hg
    obtain ⟨its, rv, p, hz⟩ := I.tuple hq
    obtain ⟨u, hu, ru⟩ := rv.get hx
    obtain ⟨⟨old, he⟩, hit⟩ := st
    have pt : s.heap.IsTuple a its.toArray := p
    have hil : i < its.toArray.size := by
      have := (List.getElem?_eq_some_iff.mp hu).1
      simpa using this
    have hai : a ≠ it := by
      rintro rfl
      obtain ⟨o, e1, c1, _⟩ := hit
      obtain ⟨o', e2, c2, _⟩ := pt
      rw [e1] at e2; cases e2; rw [c1] at c2; exact absurd c2 (by decide +kernel)
    have hae : e ∉ [it, a] := by
      intro z
      rcases List.mem_cons.mp z with z | z
      · exact hei z
      · have z : e = a := by simpa using z
        subst z
        obtain ⟨o', e2, c2, _⟩ := pt
        rw [he] at e2; cases e2; exact absurd (show Value.type "enumerate" = Value.type "tuple" from c2) (by decide +kernel)
    refine wpAny_pyNext_enum_itemD (n := its.toArray.size) (Tn.drawsT (A := X.A.in1) (I.ok.hd hc) it a hai its.toArray) he ⟨hit, pt⟩ hil hei hae fun v h' tk hv hout hst htup hsz hkp => ?_
    refine ⟨_, rfl, wpAny_letOwnedTupleGo_enum (s := { s with heap := h', toks := tk + 1 }) hout fun h2 he2 hs2 => ?_⟩
    obtain ⟨e0, e1, e2, e3, e4, e5⟩ := hf e (by simp)
    obtain ⟨i0, i1, i2, i3, i4, i5⟩ := hf it (by simp)
    have hnew : H s.heap.objs.size = none := I.hok.fresh (Nat.le_refl _)
    have helt : e < s.heap.objs.size := Heap.lt_size he
    have hitlt : it < s.heap.objs.size := by obtain ⟨o, q, _⟩ := hit; exact Heap.lt_size q
    have vu : v = u := by
      have : its.toArray[i]? = some u := by simpa using hu
      exact Option.some.inj (hv.symm.trans this)
    subst vu
    have hs2' : Heap.SameBut e h' h2 := hs2
    have up : ∀ b o, b ≠ e → b ≠ it → s.heap.get? b = some o → h2.get? b = some o := fun b o z1 z2 q => (hs2'.2 b z1).trans (hkp b o z1 z2 q)
    have htup2 : h2.get? s.heap.objs.size = some { cls := .type "tuple", data := .seq #[.int i tk, v] } := (hs2'.2 _ (Nat.ne_of_gt helt)).trans htup
    have ne : ∀ c u', H c = some u' → c ≠ e ∧ c ≠ it := fun c u' z => ⟨(fun y => by rw [y, e0] at z; cases z), (fun y => by rw [y, i0] at z; cases z)⟩
    have I1 : Inv X pins σ (upd H s.heap.objs.size (.tup [.int i, x])) { s with heap := h2, toks := tk + 1 } := by
      refine I.step (g' := s.gens) (d' := s.drawn) (ch := [e, it]) (fun b hb => ?_) (fun b o _ _ hb q _ => up b o (fun z => hb (by simp [z])) (fun z => hb (by simp [z])) q)
        (fun b o _ _ hb q _ => ⟨o.slots, up b o (fun z => hb (by simp [z])) (fun z => hb (by simp [z])) q⟩) (fun b o _ q n => by rw [upd_ne (Nat.ne_of_lt (Heap.lt_size q))]; exact n)
        (fun b o hb q => ⟨o, up b o (fun z => hb (by simp [z])) (fun z => hb (by simp [z])) q⟩) (fun b ys q => by rw [upd_ne (ne_of_none q hnew)]; exact q) (fun b o ys q => by rw [upd_ne (ne_of_none q hnew)]; exact q)
        (fun b ps q => ⟨#[], by rw [upd_ne (ne_of_none q hnew), q]; simp⟩) (fun m hm => ?_) (fun b ob q => ?_) I.bare
      · rcases List.mem_cons.mp hb with z | z
        · subst z; exact ⟨e3, e1, e4, e5⟩
        · have z : b = it := by simpa using z
          subst z; exact ⟨i3, i1, i4, i5⟩
      · obtain ⟨o, es, ep, ho, r⟩ := hm
        exact ⟨o, es, ep, up _ o (Ne.symm e1) (Ne.symm i1) ho, r⟩
      · by_cases hb : b = s.heap.objs.size
        · subst hb
          rw [upd_same] at q; cases q
          exact ⟨(by show 2 ≤ sizeLine; decide), [.int i tk, v], .cons ⟨_, rfl⟩ (.cons ru .nil), ⟨_, htup2, rfl, ⟨_, rfl⟩, rfl⟩⟩
        · rw [upd_ne hb] at q
          refine (I.hok b ob q).stay (fun c v' hc' q' => ?_) (fun c z => by rw [upd_ne (ne_of_none z hnew)]; exact z) fun c ys z => by rw [upd_ne (ne_of_none z hnew)]; exact z
          have hc2 : c ≠ e ∧ c ≠ it := by
            rcases hc' with z | z
            · subst z; exact ne _ _ q
            · exact ne _ _ z
          exact up c v' hc2.1 hc2.2 q'
    refine ⟨.ref s.heap.objs.size, _, I1, rfl, ⟨s.heap.objs.size, x, hnew, rfl, fun ys hy => by rw [I.tuple_inj hy hq]; exact hx, rfl⟩, ⟨⟨v, by simpa using he2⟩, Tn.tupIter_at hst.1 fun o q => (hs2'.2 it (Ne.symm hei)).trans q⟩, fun b hb => ?_⟩
    rw [upd_ne (by
      rcases List.mem_cons.mp hb with z | z
      · subst z; exact Nat.ne_of_lt helt
      · have z : b = it := by simpa using z
        subst z; exact Nat.ne_of_lt hitlt)]
    exact (hf b hb).1
  done := by
    intro X hP hw hK hc i pins s σ H E I hf st hg
    subst hP hw hK
    obtain ⟨xs, hq, hx⟩ := hg
    obtain ⟨its, rv, p, hz⟩ := I.tuple hq
    obtain ⟨⟨old, he⟩, hit⟩ := st
    have hl := rv.length
    have pt : s.heap.IsTuple a its.toArray := p
    have hai : a ≠ it := by
      rintro rfl
      obtain ⟨o, e1, c1, _⟩ := hit
      obtain ⟨o', e2, c2, _⟩ := pt
      rw [e1] at e2; cases e2; rw [c1] at c2; exact absurd c2 (by decide +kernel)
    have hi : i = its.toArray.size := by simp; omega
    obtain ⟨i0, i1, i2, i3, i4, i5⟩ := hf it (by simp)
    refine wpAny_pyNext_enum_endD (Tn.drawsT (A := X.A.in1) (I.ok.hd hc) it a hai its.toArray) he ⟨by rw [← hi]; exact hit, pt⟩ fun h' hx => ⟨rfl, I.turned (t' := s.toks) (fun b o hb q => hx b o hb q) i0 i1 i3 i4 i5⟩
  self := fun _ i s Q E st h => by
    obtain ⟨⟨old, q⟩, _⟩ := st
    exact wpAny_pyIter_enum q h
def iEnum (K : PySem.W.Frag) (ta : TA) : TI := fun σ H R => ta σ H fun vs H1 => ∃ a, vs = [.ref a] ∧ (∃ xs, SqT K H1 a xs) ∧ R (Ite K a) H1
theorem pi_enumT {e : Expr} {ta : TA} {p pos tp : Pos} {elts : List Expr} {k : Nat} (hg : Gl X "enumerate") (hm : X.mg "enumerate" = none) (ha : PA X [e] ta) (hs : starEach [e] X.env = [(false, eval e X.env)] := by rfl) :
    PI X (.Tuple elts k tp) (.Call (.Name "enumerate" p) [e] [] pos) (iEnum X.K ta) := by
  intro pins s σ H R I h
  refine Call_ (ld_blt I hg hm (by decide +kernel : bootBuiltins "enumerate" = some (.type "enumerate")) (PyProof.Rows.callWith_type1 (thn (ha pos pins s σ H _ I h) fun us s1 ⟨vs, H1, I1, r1, q1⟩ => ?_) hs rfl))
  obtain ⟨a, rfl, ⟨xs, hq⟩, q⟩ := q1
  obtain ⟨u, rfl, rx⟩ := vals1 r1
  cases rx
  obtain ⟨its, rv, pl, _⟩ := I1.tuple hq
  refine Tn.call_enumT (show s1.heap.IsTuple a its.toArray from pl) fun g he hit hsz kp => ?_
  refine wpAny_pyIter_enum (s := { s1 with heap := g }) he ?_
  have I2 : Inv X pins σ H1 { s1 with heap := g } := I1.kept (t' := s1.toks) kp
  have fr : ∀ b, s1.heap.objs.size ≤ b → FpOk X pins H1 b := fun b hb => I1.fpOk hb (I1.hok.fresh hb)
  refine ⟨_, [s1.heap.objs.size + 1, s1.heap.objs.size], _, Ite X.K a, H1, rfl, I2, turn_enumT a s1.heap.objs.size (s1.heap.objs.size + 1) (Nat.succ_ne_self _), ⟨⟨.none, he⟩, hit⟩, fun b hb => ?_, q⟩
  rcases List.mem_cons.mp hb with z | z
  · rw [z]; exact fr _ (Nat.le_succ _)
  · have z : b = s1.heap.objs.size := by simpa using z
    rw [z]; exact fr _ (Nat.le_refl _)
theorem for_enum {K : PySem.W.Frag} {a : Addr} {xs : List V} {g : TG} {tb : TS} {D : Ends} {σ : St} {H : Hp} (Pv : Nat → St → Hp → Prop) (h0 : Pv 0 σ H) (hl : ∀ i σ H, i ≤ xs.length → Pv i σ H → SqT K H a xs)
    (hs : ∀ i x σ H p, xs[i]? = some x → Pv i σ H → H p = none → g (.ref p) σ (upd H p (.tup [.int i, x])) fun σ2 H2 => tb { D with nx := Pv (i + 1), ct := Pv (i + 1), bk := D.nx } σ2 H2) (hd : ∀ σ H, Pv xs.length σ H → D.nx σ H) :
    ∃ W : Nat → Nat → St → Hp → Prop, (∃ m, W 0 m σ H) ∧ ∀ i m σ H, W i m σ H →
      ((Ite K a).stop i H ∧ D.nx σ H) ∨ ((Ite K a).go i H ∧ ∃ N : St → Hp → Prop, (∀ σ' H', N σ' H' → ∃ m', m' < m ∧ W (i + 1) m' σ' H') ∧ ∀ x H', (Ite K a).yld i H x H' → g x σ H' fun σ2 H2 => tb { D with nx := N, ct := N, bk := D.nx } σ2 H2) := by
  refine ⟨fun i m σ H => m = xs.length - i ∧ i ≤ xs.length ∧ Pv i σ H, ⟨xs.length, by simp, Nat.zero_le _, h0⟩, ?_⟩
  rintro i m σ H ⟨rfl, hi, p⟩
  have q := hl i σ H hi p
  by_cases hlt : i < xs.length
  · refine .inr ⟨⟨xs, xs[i], q, by simp [hlt]⟩, Pv (i + 1), fun σ' H' p' => ⟨xs.length - (i + 1), by omega, rfl, hlt, p'⟩, fun x H' y => ?_⟩
    obtain ⟨pp, yy, hp, rfl, hy, rfl⟩ := y
    exact hs i yy σ H pp (hy xs q) p hp
  · have e : i = xs.length := by omega
    subst e
    exact .inl ⟨⟨xs, q, rfl⟩, hd σ H p⟩
end
end L2
namespace L2
open PySem PySem.Spec PyProof.Rows
def cSt (σ : St) (js : List Nat) : St := none :: js.map fun j => (σ[j]?).getD none
def cxC (X : Cx) (scope : Scope) (cl : List (Str × Addr)) (C : Addr) (N : List Str) (fp : List Addr) (s : Shared) (H : Hp) : Cx where
  prog := X.prog
  w := X.w
  K := X.K
  mg := X.mg
  base := X.base
  A := X.A
  N := N
  s₀ := s
  H₀ := H
  env := compEnvC scope cl C X.env
  outer := X.stack
  stack := X.stack
  ex := fp
  fn := fun _ => false
  calm := X.calm
  pn := []
  xe := fun _ _ => False
theorem closure_go {env : Env} : ∀ (l : List (Str × NameKind)) (cs : List (Str × Addr)), (∀ y ∈ l, y.2 = .free → ∃ c, env.cells.lookup y.1 = some c) → (∀ y c, cs.lookup y = some c → env.cells.lookup y = some c) →
    ∃ cl, (forIn l cs fun x r => do
        let (name, kind) := x
        let mut cs := r
        if kind == .free then cs := (name, ← cellOf env name) :: cs
        pure (ForInStep.yield cs) : Sem (List (Str × Addr))) = pure cl ∧ (∀ y c, cl.lookup y = some c → env.cells.lookup y = some c) ∧ (∀ y ∈ l, y.2 = .free → ∃ c, cl.lookup y.1 = some c) ∧ (∀ y c, cs.lookup y = some c → ∃ d, cl.lookup y = some d)
  | [], cs, _, h2 => ⟨cs, rfl, h2, (fun _ h => nomatch h), fun y c e => ⟨c, e⟩⟩
  | (n, k) :: r, cs, h1, h2 => by
    rw [List.forIn_cons]
    by_cases hk : k = .free
    · subst hk
      obtain ⟨c, hc⟩ := h1 (n, .free) List.mem_cons_self rfl
      have hc' : cellOf env n = pure c := by unfold cellOf; rw [show env.cells.lookup n = some c from hc]
      obtain ⟨cl, e, p1, p2, p3⟩ := closure_go r ((n, c) :: cs) (fun y hy => h1 y (List.mem_cons_of_mem _ hy)) (fun y d hd => by
        rw [List.lookup_cons] at hd
        split at hd
        · rename_i hb
          have : y = n := by simpa using hb
          cases hd
          rw [this]; exact hc
        · exact h2 y d hd)
      refine ⟨cl, ?_, p1, fun y hy hf => ?_, fun y d hd => ?_⟩
      · simp only [beq_self_eq_true, if_true, hc', pure_bind]
        exact e
      · rcases List.mem_cons.mp hy with rfl | hy
        · exact p3 n c (by simp)
        · exact p2 y hy hf
      · by_cases hyn : y = n
        · subst hyn; exact p3 y c (by simp)
        · exact p3 y d (by rw [List.lookup_cons, show (y == n) = false by simpa using hyn]; exact hd)
    · have hb : (k == NameKind.free) = false := by simpa using hk
      obtain ⟨cl, e, p1, p2, p3⟩ := closure_go r cs (fun y hy => h1 y (List.mem_cons_of_mem _ hy)) h2
      refine ⟨cl, ?_, p1, fun y hy hf => ?_, p3⟩
      · simp only [hb, Bool.false_eq_true, if_false, pure_bind]
        exact e
      · rcases List.mem_cons.mp hy with rfl | hy
        · exact absurd hf hk
        · exact p2 y hy hf
theorem closure_of {env : Env} {scope : Scope} (h : ∀ y ∈ scope.names, y.2 = .free → ∃ c, env.cells.lookup y.1 = some c) :
    ∃ cl, closureFor scope env = pure cl ∧ (∀ y c, cl.lookup y = some c → env.cells.lookup y = some c) ∧ ∀ y ∈ scope.names, y.2 = .free → ∃ c, cl.lookup y.1 = some c := by
  obtain ⟨cl, e, p1, p2, _⟩ := closure_go scope.names [] h (fun _ _ q => by simp at q)
  refine ⟨cl, ?_, p1, p2⟩
  unfold closureFor
  have e' := congrArg (fun (t : Sem (List (Str × Addr))) => t >>= fun cs => pure cs) e
  simp only [pure_bind, bind_pure] at e' ⊢
  first | exact e' | simpa using e'
structure CScope (S scope : Scope) (x : Str) (N : List Str) (P : List Str) (js : List Nat) : Prop where
  kind : scope.kind = .function
  nocell : ∀ y ∈ scope.names, y.2 ≠ .cell
  loc : ∀ y ∈ scope.names, y.2 = .local → scope.names.lookup y.1 = some .local
  free : ∀ y ∈ scope.names, y.2 = .free → S.names.lookup y.1 = some .cell ∨ S.names.lookup y.1 = some .free
  own : scope.names.lookup x = some .local
  nd : N.Nodup
  hd : N = x :: (js.map fun j => (P[j]?).getD x)
  fr : ∀ j ∈ js, ∃ y, P[j]? = some y ∧ scope.names.lookup y = some .free
end L2
namespace L2
open PySem PySem.Spec PyProof.Rows
def relF (env : Env) (p : Str × NameKind) : Str × NameKind := if (p.2 == .free && env.scope.kind == .function && env.kindOf p.1 == some .cell) then (p.1, .cell) else (p.1, p.2)
theorem relF_fst (env : Env) (p : Str × NameKind) : (relF env p).1 = p.1 := by
  unfold relF; split <;> rfl
theorem relF_snd (env : Env) (p : Str × NameKind) : (relF env p).2 = p.2 ∨ (p.2 = .free ∧ (relF env p).2 = .cell) := by
  unfold relF
  split
  · rename_i h
    refine .inr ⟨?_, rfl⟩
    have h' : (p.2 == NameKind.free) = true := by
      cases e : (p.2 == NameKind.free) with
      | true => rfl
      | false => rw [e] at h; simp at h
    simpa using h'
  · exact .inl rfl
theorem look_rel {env : Env} : ∀ {names : List (Str × NameKind)} {x : Str} {k : NameKind}, (names.map (relF env)).lookup x = some k → ∃ k0, names.lookup x = some k0 ∧ (k = k0 ∨ (k0 = .free ∧ k = .cell))
  | [], _, _, h => by simp at h
  | p :: r, x, k, h => by
    rw [List.map_cons, show relF env p = ((relF env p).1, (relF env p).2) from rfl, List.lookup_cons, relF_fst] at h
    rw [show p = (p.1, p.2) from rfl, List.lookup_cons]
    split at h
    · refine ⟨p.2, rfl, ?_⟩
      have e : (relF env p).2 = k := Option.some.inj h
      rcases relF_snd env p with z | z
      · exact .inl (e.symm.trans z)
      · exact .inr ⟨z.1, e.symm.trans z.2⟩
    · exact look_rel h
theorem look_unrel {env : Env} : ∀ {names : List (Str × NameKind)} {x : Str} {k0 : NameKind}, names.lookup x = some k0 → ∃ k, (names.map (relF env)).lookup x = some k ∧ (k = k0 ∨ (k0 = .free ∧ k = .cell))
  | [], _, _, h => by simp at h
  | p :: r, x, k0, h => by
    rw [show p = (p.1, p.2) from rfl, List.lookup_cons] at h
    rw [List.map_cons, show relF env p = ((relF env p).1, (relF env p).2) from rfl, List.lookup_cons, relF_fst]
    split at h
    · have e : p.2 = k0 := Option.some.inj h
      refine ⟨_, rfl, ?_⟩
      rcases relF_snd env p with z | z
      · exact .inl (z.trans e)
      · exact .inr ⟨e.symm.trans z.1, z.2⟩
    · exact look_unrel h
section
variable {X : Cx} {pins : List (Addr × Obj)} {σ : St} {H : Hp} {s : Shared} {scope S : Scope} {cl : List (Str × Addr)} {C : Addr} {N : List Str} {fp : List Addr} {x : Str} {js : List Nat}
theorem cxC_ok (I : Inv X pins σ H s) (Sc : CScope S scope x N X.N js) (hC : s.heap.objs.size ≤ C) (h1 : ∀ y c, cl.lookup y = some c → X.env.cells.lookup y = some c)
    (h2 : ∀ y ∈ scope.names, y.2 = .free → ∃ c, cl.lookup y.1 = some c) (hfp : ∀ b ∈ fp, FpOk X pins H b) (hlt : ∀ b ∈ fp, b < s.heap.objs.size) : (cxC X scope cl C N fp s H).Ok where
  mod := I.ok.mod
  kind := Sc.kind
  glob := I.ok.glob
  blt := I.ok.blt
  above := hC
  inj := fun y z c e1 e2 => I.ok.inj y z c (h1 _ _ e1) (h1 _ _ e2)
  has := fun y hy => by
    have go : ∀ k, (scope.names.map (relF X.env)).lookup y = some k → (k = .cell ∨ k = .free) → ∃ c, cl.lookup y = some c := fun k e hk => by
      obtain ⟨k0, e0, hh⟩ := look_rel e
      have m := PySem.mem_of_lookup e0
      have hf : k0 = .free := by
        rcases hh with z | z
        · rcases hk with q | q
          · exact absurd (z.symm.trans q) (Sc.nocell _ m)
          · exact z.symm.trans q
        · exact z.1
      exact h2 (y, k0) m hf
    rcases hy with e | e
    · exact go _ e (.inl rfl)
    · exact go _ e (.inr rfl)
  cab := fun _ _ h => nomatch h
  hd := I.ok.hd
  frames := I.ok.frames
  stk := .inl rfl
  exf := fun b hb => ⟨Nat.ne_of_lt (Nat.lt_of_lt_of_le (hlt b hb) hC), fun y c e => (hfp b hb).2.2.2.2.1 y c (h1 _ _ e)⟩
  bs := fun b o e => I.bs b o e
  bsz := Nat.le_trans I.ok.bsz I.sz
  noex := fun b o e hb => by
    rcases (hfp b hb).2.2.2.1 with z | z
    · exact I.ok.noex b o e z
    · exact absurd (Nat.lt_of_lt_of_le (Heap.lt_size e) (Nat.le_trans I.ok.bsz z)) (Nat.lt_irrefl _)
  exfs := fun b hb hs => by
    rcases List.mem_cons.mp (I.stkSub b hs) with z | z
    · exact (hfp b hb).2.1 z
    · exact (hfp b hb).2.2.1 z
  funs := I.stack
  frf := I.stkFree
theorem cxC_inv (I : Inv X pins σ H s) (hS : X.env.scope = S) (Sc : CScope S scope x N X.N js) (hC : s.heap.objs.size ≤ C) (h1 : ∀ y c, cl.lookup y = some c → X.env.cells.lookup y = some c)
    (h2 : ∀ y ∈ scope.names, y.2 = .free → ∃ c, cl.lookup y.1 = some c) (hfp : ∀ b ∈ fp, FpOk X pins H b) (hlt : ∀ b ∈ fp, b < s.heap.objs.size)
    {h4 : Heap} {tk : Nat} {m : Str → Option Value} (hns : h4.Ns C m) (hk : ∀ b o, s.heap.get? b = some o → h4.get? b = some o) :
    Inv (cxC X scope cl C N fp s H) [] (cSt σ js) H { s with heap := h4, toks := tk } := by
  refine ⟨cxC_ok I Sc hC h1 h2 hfp hlt, rfl, I.bare, Un.kept hk, ⟨m, hns, fun i y v hi hv hvis => ?_⟩, fun y c e => ?_, I.hok.fresh hC, fun y c e => I.freeC y c (h1 _ _ e), fun p hp => absurd (show p ∈ ([] : List (Addr × Obj)) from hp) (by simp), I.hok.kept hk, ?_⟩
  · cases i with
    | zero => exact absurd (show some (none : Option V) = some (some v) from hv) (by simp)
    | succ i =>
      have hi : N[i + 1]? = some y := hi
      rw [Sc.hd, List.getElem?_cons_succ, List.getElem?_map] at hi
      have hv : (js.map fun j => (σ[j]?).getD none)[i]? = some (some v) := hv
      rw [List.getElem?_map] at hv
      cases ej : js[i]? with
      | none => rw [ej] at hv; cases hv
      | some j =>
        rw [ej] at hi hv
        have hv : (σ[j]?).getD none = some v := Option.some.inj hv
        have hi : (X.N[j]?).getD x = y := Option.some.inj hi
        obtain ⟨y', ey, hfr⟩ := Sc.fr j (List.mem_of_getElem? ej)
        rw [ey] at hi
        have hi : y' = y := hi
        subst hi
        have hσ : σ[j]? = some (some v) := by
          cases e : σ[j]? with
          | none => rw [e] at hv; cases hv
          | some o => rw [e] at hv; exact congrArg some hv
        have kX := Sc.free _ (PySem.mem_of_lookup hfr) rfl
        rw [← hS] at kX
        obtain ⟨mX, hnX, hl⟩ := I.loc
        obtain ⟨u, r, L⟩ := hl j y' v ey hσ (.inr kX)
        refine ⟨u, r, ?_⟩
        rcases L with ⟨kl, _⟩ | ⟨_, c, ec, z⟩
        · have kl : X.env.scope.names.lookup y' = some .local := kl
          rcases kX with q | q
          · rw [q] at kl; cases kl
          · rw [q] at kl; cases kl
        · obtain ⟨c', ec'⟩ := h2 _ (PySem.mem_of_lookup hfr) rfl
          have ecc : c' = c := Option.some.inj ((h1 _ _ ec').symm.trans ec)
          subst ecc
          obtain ⟨o, ho, hd⟩ := z
          refine .inr ⟨?_, c', ec', o, hk _ _ ho, hd⟩
          obtain ⟨k, e, hh⟩ := look_unrel (env := X.env) hfr
          rcases hh with q | q
          · exact .inr (show (scope.names.map (relF X.env)).lookup y' = some .free from q ▸ e)
          · exact .inl (show (scope.names.map (relF X.env)).lookup y' = some .cell from q.2 ▸ e)
  · obtain ⟨v, o, ho, hd⟩ := I.cell y c (h1 _ _ e)
    exact ⟨v, o, hk _ _ ho, hd⟩
  · show (cSt σ js).length = N.length
    rw [Sc.hd]
    simp [cSt]
def PTs (X : Cx) (ifs : List Expr) (t : TT) : Prop :=
  ∀ (pins : List (Addr × Obj)) (s : Shared) (σ : St) (H : Hp) (Q : Bool → Hp → Prop), Inv X pins σ H s → t σ H Q →
    wpAny (model X.prog X.w) X.A (forIn ifs true fun c r => if r = true then do let ok ← isTrue c X.env (eval c X.env); pure (ForInStep.yield ok) else pure (ForInStep.yield r)) (TP X pins σ Q) X.xe s
def tYes : TT := fun _ H Q => Q true H
theorem pts_nil : PTs X [] tYes := fun _ _ _ H _ I h => wpAny_tests_nil ⟨H, I, h⟩
def CompW (J : It) (g : TG) (tc : TT) (te : TE) (js : List Nat) (σ : St) (H1 : Hp) (Q : VK) (D : Addr) : Prop :=
  ∃ W : Nat → Nat → List V → St → Hp → Prop, (∃ m, W 0 m [] (cSt σ js) (upd H1 D (.lst []))) ∧ ∀ i m acc σ' H', W i m acc σ' H' → H' D = some (.lst acc) ∧
    ((J.stop i H' ∧ Q (.ref D) H') ∨ (J.go i H' ∧ acc.length < sizeLine ∧ ∀ y H2, J.yld i H' y H2 → g y σ' H2 fun σ3 H3 => tc σ3 H3 fun b H4 =>
      if b = true then te σ3 H4 fun z H5 => H5 D = some (.lst acc) ∧ ∃ m', m' < m ∧ W (i + 1) m' (acc ++ [z]) σ3 (upd H5 D (.lst (acc ++ [z])))
      else ∃ m', m' < m ∧ W (i + 1) m' acc σ3 H4))
def tComp (wi : TI) (g : TG) (tc : TT) (te : TE) (js : List Nat) : TE := fun σ H Q => wi σ H fun J H1 => ∀ D, H1 D = none → CompW J g tc te js σ H1 Q D
theorem compLoop_go {prog : Program} {w : World} {A : Around} {R : Result → Shared → Prop} {s : Shared} {elt target iter : Expr} {ifs : List Expr} {pos : Pos} {it acc : Value} {env : Env} (I : Nat → Shared → Prop)
    (turn : ∀ n s, I n s → wpAny (model prog w) A (pyNext it) (fun r s₁ => match r with
      | none => R (.ok .next) s₁
      | some v => wpAny (model prog w) A (letOwnedTupleGo target it v) (fun _ s₂ => wpAny (model prog w) A (assign target env v) (fun _ s₂ =>
          wpAny (model prog w) A (forIn ifs true fun c r => if r = true then do let ok ← isTrue c env (eval c env); pure (ForInStep.yield ok) else pure (ForInStep.yield r)) (fun ok s₃ =>
            if ok = true then wpAny (model prog w) A (eval elt env) (fun x s₄ =>
              wpAny (model prog w) A (call (.builtin "list.append") [acc, x]) (fun _ s₅ => ∃ m, m < n ∧ I m s₅) (fun _ _ => False) s₄) (fun _ _ => False) s₃
            else ∃ m, m < n ∧ I m s₃) (fun _ _ => False) s₂) (fun _ _ => False) s₂) (fun _ _ => False) s₁) (fun _ _ => False) s)
    (n : Nat) (h : I n s) :
    codeAny (model prog w) A (.compLoop (.ListComp elt [⟨target, iter, ifs, 0⟩] scope pos) 0 it acc env) R s := by
  refine codeAny_loop rfl I (fun n s hI => ?_) n h
  show wpAny _ A ((compTurn (.ListComp elt [⟨target, iter, ifs, 0⟩] scope pos) 0 it acc env).onRaise (fun x => do noteFrame x env; theTreesLotGoes x)) _ _ s
  refine wpAny_noted ?_
  rw [compTurn_list]
  refine wpAny_bind (wpAny_standAt (wpAny_bind (wpAny_mono (turn n s hI) (fun r s₁ h₁ => ?_) fun _ _ h' => h'.elim)))
  cases r with
  | none => exact wpAny_pure h₁
  | some v =>
    refine wpAny_bind (wpAny_mono h₁ (fun _ s₁' h₁' => ?_) fun _ _ h' => h'.elim)
    refine wpAny_bind (wpAny_mono h₁' (fun _ s₂ h₂ => wpAny_bind (wpAny_mono h₂ (fun ok s₃ h₃ => ?_) fun _ _ h' => h'.elim)) fun _ _ h' => h'.elim)
    cases ok with
    | false => exact wpAny_pure ⟨rfl, h₃⟩
    | true =>
      exact wpAny_bind (wpAny_bind (wpAny_mono h₃ (fun x s₄ h₄ => wpAny_bind (wpAny_mono h₄ (fun _ s₅ h₅ => wpAny_pure (wpAny_pure ⟨rfl, h₅⟩)) fun _ _ h' => h'.elim)) fun _ _ h' => h'.elim))
theorem comp_block {E : Value → Shared → Prop} {elt iter tg : Expr} {ifs : List Expr} {pos : Pos} {J : It} {tn : Nat → Heap → Prop} {it : Addr} {g : TG} {tc : TT} {te : TE} {Q : VK} {RR : Value → Addr → Result → Shared → Prop}
    (hc : X.calm = true) (I2 : Inv X pins σ H s) (hS : X.env.scope = S) (Sc : CScope S scope x N X.N js) (h1 : ∀ y c, cl.lookup y = some c → X.env.cells.lookup y = some c)
    (h2 : ∀ y ∈ scope.names, y.2 = .free → ∃ c, cl.lookup y.1 = some c) (T : Turn X.prog X.w X.K tg J fp it tn) (st2 : tn 0 s.heap) (f2 : ∀ b ∈ fp, FpOk X pins H b)
    (hg : ∀ cl C fp s H, PG (cxC X scope cl C N fp s H) tg g) (ht : ∀ cl C fp s H, PTs (cxC X scope cl C N fp s H) ifs tc) (he : ∀ cl C fp s H, PE (cxC X scope cl C N fp s H) elt te)
    (q : ∀ D, H D = none → CompW J g tc te js σ H Q D)
    (hRR : ∀ D C H' s', Inv X pins σ H' s' → FpOk X pins H' C → (∃ m, s'.heap.Ns C m) → Q (.ref D) H' → RR (.ref D) C (.ok .next) s') :
    wpAny (model X.prog X.w) X.A (newList []) (fun acc s₃ => wpAny (model X.prog X.w) X.A (newFunctionEnv scope X.env.globals cl [] X.env.qual none .none (some X.env)) (fun cenv s₄ =>
      codeAny (model X.prog X.w) X.A (.compStart (.ListComp elt [⟨tg, iter, ifs, 0⟩] scope pos) 0 (.ref it) acc { cenv with scope := relabel scope X.env }) (RR acc cenv.locals) s₄) E s₃) E s := by
  refine wpAny_newObj_type (wpAny_newFunctionEnv Sc.nocell (by intro y hy; simp at hy) (fun h₁ hns₁ hsb₁ => ?_) Sc.kind)
  dsimp only at hns₁ hsb₁ ⊢
  have I3 : Inv X pins σ (upd H s.heap.objs.size (.lst [])) { s with heap := s.heap.push { cls := .type "list", dict := none, data := .seq ([] : List Value).toArray } } := I2.lnew (its := []) (t' := s.toks) .nil (Nat.zero_le _)
  have hD0 : H s.heap.objs.size = none := I2.hok.fresh (Nat.le_refl _)
  obtain ⟨W, ⟨m0, w0⟩, turn⟩ := q s.heap.objs.size hD0
  generalize hHP : s.heap.push { cls := .type "list", dict := none, data := .seq ([] : List Value).toArray } = HP at hns₁ hsb₁ I3 ⊢
  have hsz : HP.objs.size = s.heap.objs.size + 1 := by rw [← hHP, Heap.size_push]
  have kp : ∀ b o, HP.get? b = some o → h₁.get? b = some o := fun b o e => hsb₁.extBut b o (Nat.ne_of_lt (Heap.lt_size e)) (Heap.get?_push_of_some _ e)
  have lt2 : ∀ b ∈ fp, b < s.heap.objs.size := fun b hb => by
    obtain ⟨o, e, _⟩ := T.obj 0 _ st2 b hb
    exact Heap.lt_size e
  have f3 : ∀ b ∈ fp, FpOk X pins (upd H s.heap.objs.size (.lst [])) b := fun b hb => ⟨by rw [upd_ne (Nat.ne_of_lt (lt2 b hb))]; exact (f2 b hb).1, (f2 b hb).2⟩
  have lt3 : ∀ b ∈ fp, b < HP.objs.size := fun b hb => by rw [hsz]; exact Nat.lt_succ_of_lt (lt2 b hb)
  have IB : Inv (cxC X scope cl HP.objs.size N fp { s with heap := HP } (upd H s.heap.objs.size (.lst []))) [] (cSt σ js) (upd H s.heap.objs.size (.lst [])) { s with heap := h₁, toks := s.toks + ([] : List (Str × Value)).length } :=
    cxC_inv (s := { s with heap := HP }) I3 hS Sc (Nat.le_refl _) h1 h2 f3 lt3 hns₁ kp
  have st1 : tn 0 h₁ := T.keep 0 _ _ st2 fun b _ o e => kp b o (by rw [← hHP]; exact Heap.get?_push_of_some _ e)
  have loop : codeAny (model X.prog X.w) X.A (.compLoop (.ListComp elt [⟨tg, iter, ifs, 0⟩] scope pos) 0 (.ref it) (.ref s.heap.objs.size) (compEnvC scope cl HP.objs.size X.env))
      (RR (.ref s.heap.objs.size) HP.objs.size) { s with heap := h₁, toks := s.toks + ([] : List (Str × Value)).length } := by
    have stat : ∀ {H' : Hp}, (∀ b ∈ fp, H' b = none) → ∀ b ∈ fp, FpOk (cxC X scope cl HP.objs.size N fp { s with heap := HP } (upd H s.heap.objs.size (.lst []))) [] H' b := fun {H'} hn b hb =>
      ⟨hn b hb, Nat.ne_of_lt (lt3 b hb), fun hs => by
        rcases List.mem_cons.mp (I3.stkSub b hs) with z | z
        · exact (f3 b hb).2.1 z
        · exact (f3 b hb).2.2.1 z, .inl hb, fun y c e => (f3 b hb).2.2.2.2.1 y c (h1 _ _ e), fun p hp => absurd (show p ∈ ([] : List (Addr × Obj)) from hp) (by simp)⟩
    refine compLoop_go (fun n s' => ∃ i acc σ' H', Inv (cxC X scope cl HP.objs.size N fp { s with heap := HP } (upd H s.heap.objs.size (.lst []))) [] σ' H' s' ∧ tn i s'.heap ∧ (∀ b ∈ fp, H' b = none) ∧ W i n acc σ' H') ?_ m0
      ⟨0, [], _, _, IB, st1, fun b hb => (f3 b hb).1, w0⟩
    rintro n s5 ⟨i, acc, σ5, H5, I5, st5, fr5, w5⟩
    obtain ⟨hD, alt⟩ := turn i n acc σ5 H5 w5
    rcases alt with ⟨stop, qn⟩ | ⟨go, hz, step⟩
    · refine thn (T.done (cxC X scope cl HP.objs.size N fp { s with heap := HP } (upd H s.heap.objs.size (.lst []))) rfl rfl rfl hc i [] s5 σ5 H5 _ I5 (stat fr5) st5 stop) fun r s6 ⟨hr, I6⟩ => ?_
      subst hr
      have hfin : Inv X pins σ H5 s6 := I3.call' (ch := fp) I6.os I6.base I6.hok I6.bare fun b hb => ⟨(f3 b hb).2.2.2.1, (f3 b hb).2.1, (f3 b hb).2.2.2.2.1, (f3 b hb).2.2.2.2.2⟩
      obtain ⟨m, hm, _⟩ := I6.loc
      exact hRR _ _ H5 s6 hfin (I3.fpOk (Nat.le_refl _) I6.free) ⟨m, hm⟩ qn
    · refine thn (T.item (cxC X scope cl HP.objs.size N fp { s with heap := HP } (upd H s.heap.objs.size (.lst []))) rfl rfl rfl hc i [] s5 σ5 H5 _ I5 (stat fr5) st5 go) fun r s6 ⟨u, hr, h6⟩ => ?_
      subst hr
      refine thn h6 fun _ s7 ⟨y, H7, I7, r7, y7, st7, fr7⟩ => ?_
      have I7' := I7.pinned (stat fr7) (T.obj _ _ st7)
      refine thn (hg _ _ _ _ _ _ s7 σ5 H7 y u _ I7' r7 (step y H7 y7)) fun _ s8 ⟨σ8, H8, I8, q8⟩ => ?_
      have keepIt : ∀ {σ' : St} {H' : Hp} {s' : Shared}, Inv (cxC X scope cl HP.objs.size N fp { s with heap := HP } (upd H s.heap.objs.size (.lst []))) ([] ++ pinsAt fp s7.heap) σ' H' s' → tn (i + 1) s'.heap ∧ ∀ b ∈ fp, H' b = none := fun {σ' H' s'} J' =>
        ⟨T.keep _ _ _ st7 fun b hb o e => (J'.pin (b, o) (List.mem_append_right _ (List.mem_append_right _ (mem_pinsAt hb e)))).1, fun b hb => by
          obtain ⟨o, e, _⟩ := T.obj _ _ st7 b hb
          exact (J'.pin (b, o) (List.mem_append_right _ (List.mem_append_right _ (mem_pinsAt hb e)))).2.1⟩
      refine thn (ht _ _ _ _ _ _ s8 σ8 H8 _ I8 q8) fun ok s9 ⟨H9, I9, q9⟩ => ?_
      cases ok with
      | false =>
        obtain ⟨m', hm, w9⟩ := q9
        obtain ⟨t9, n9⟩ := keepIt I9
        exact ⟨m', hm, i + 1, acc, σ8, H9, I9.unpinned, t9, n9, w9⟩
      | true =>
        refine thn (he _ _ _ _ _ _ s9 σ8 H9 _ I9 q9) fun v s10 ⟨z, H10, I10, r10, hD10, m', hm, w10⟩ => ?_
        refine thn (mt_append _ s10 σ8 H10 (.ref s.heap.objs.size) [z] (.ref s.heap.objs.size) [v] (fun _ H11 => ∃ m', m' < n ∧ W (i + 1) m' (acc ++ [z]) σ8 H11) I10 rfl (.cons r10 .nil) ⟨_, acc, z, rfl, rfl, hD10, hz, m', hm, w10⟩) fun _ s11 ⟨_, H11, I11, _, m2, hm2, w11⟩ => ?_
        obtain ⟨t11, n11⟩ := keepIt I11
        exact ⟨m2, hm2, i + 1, acc ++ [z], σ8, H11, I11.unpinned, t11, n11, w11⟩
  exact codeAny_compStart_list loop (T.self _ 0 _ _ _ st1 loop)
variable {elt iter tg : Expr} {ifs : List Expr} {pos : Pos} {wi : TI} {g : TG} {tc : TT} {te : TE}
theorem pe_comp (hS : X.env.scope = S) (Sc : CScope S scope x N X.N js) (hc : X.calm = true) (hi : PI X tg iter wi)
    (hg : ∀ cl C fp s H, PG (cxC X scope cl C N fp s H) tg g) (ht : ∀ cl C fp s H, PTs (cxC X scope cl C N fp s H) ifs tc) (he : ∀ cl C fp s H, PE (cxC X scope cl C N fp s H) elt te)
    (hs : ∀ x, foldedSetIterable iter X.env x = pure x := by intro _; rfl) : PE X (.ListComp elt [⟨tg, iter, ifs, 0⟩] scope pos) (tComp wi g tc te js) := by
  intro pins s σ H Q I h
  obtain ⟨cl, hcl, h1, h2⟩ := closure_of (scope := scope) (env := X.env) fun y hy hf => I.ok.has y.1 (by have := Sc.free y hy hf; rw [← hS] at this; exact this)
  rw [eval_ListComp]
  refine wpAny_comprehension_free (use := none) rfl hs hcl Sc.kind Sc.loc (thn (hi pins s σ H _ I h) fun xv s1 h1' => thn h1' fun itv s2 h2' => ?_)
  obtain ⟨it, fp, tn, J, H2, rfl, I2, T, st2, f2, q⟩ := h2'
  refine comp_block (RR := fun acc C => compPost (model X.prog X.w) X.A X.xe none (EP X pins σ Q) acc C) hc I2 hS Sc h1 h2 T st2 f2 hg ht he q ?_
  rintro D C H' s' I' f' ⟨m, hm⟩ qD
  exact ⟨m, hm, fun h' hs' => ⟨.ref D, H', I'.turned (t' := s'.toks) (fun b o hb e => (hs'.2 b hb).trans e) f'.1 f'.2.1 f'.2.2.2.1 f'.2.2.2.2.1 f'.2.2.2.2.2, rfl, qD⟩⟩
theorem ps_setComp {i : Nat} {y : Str} {py spos : Pos} (hN : X.N.Nodup) (hiy : X.N[i]? = some y) (hx : Loc X.env.scope y) (hS : X.env.scope = S) (Sc : CScope S scope x N X.N js) (hc : X.calm = true) (hi : PI X tg iter wi)
    (hg : ∀ cl C fp s H, PG (cxC X scope cl C N fp s H) tg g) (ht : ∀ cl C fp s H, PTs (cxC X scope cl C N fp s H) ifs tc) (he : ∀ cl C fp s H, PE (cxC X scope cl C N fp s H) elt te)
    (hsw : swapsWith (.ListComp elt [⟨tg, iter, ifs, 0⟩] scope pos) (some (.Name y py)) spos.line X.env = pure true) (hf : X.fn y = true ∨ X.env.scope.names.lookup y = some .local := by first | exact .inl rfl | exact .inr rfl | assumption)
    (hs : ∀ x, foldedSetIterable iter X.env x = pure x := by intro _; rfl) : PS X (.Assign [.Name y py] (.ListComp elt [⟨tg, iter, ifs, 0⟩] scope pos) spos) (tAsg (tComp wi g tc te js) (gName i)) := by
  intro pins s σ H D I h
  obtain ⟨cl, hcl, h1, h2⟩ := closure_of (scope := scope) (env := X.env) fun y hy hf => I.ok.has y.1 (by have := Sc.free y hy hf; rw [← hS] at this; exact this)
  rw [exec_Assign_Name_used _ _ _ _ hsw]
  refine wpAny_bind (wpAny_standAt (wpAny_bind ?_))
  show wpAny _ _ (do let _ ← comprehension (.ListComp elt [⟨tg, iter, ifs, 0⟩] scope pos) scope X.env _ (newList []) false (eval iter X.env) (some (assign (.Name y py) X.env))) _ _ s
  refine wpAny_bind (wpAny_mono (wpAny_comprehension_free (use := some (assign (.Name y py) X.env)) (Q := fun _ s' => SP X pins D .next s') rfl hs hcl Sc.kind Sc.loc
    (thn (hi pins s σ H _ I h) fun xv s1 h1' => thn h1' fun itv s2 h2' => ?_)) (fun _ s' hq => wpAny_pure (wpAny_pure hq)) fun _ _ e => e)
  obtain ⟨it, fp, tn, J, H2, rfl, I2, T, st2, f2, q⟩ := h2'
  refine comp_block (RR := fun acc C => compPost (model X.prog X.w) X.A X.xe (some (assign (.Name y py) X.env)) (fun _ s' => SP X pins D .next s') acc C) hc I2 hS Sc h1 h2 T st2 f2 hg ht he q ?_
  rintro A C H' s' I' f' ⟨m, hm⟩ qD
  show wpAny _ _ (assign (.Name y py) X.env (.ref A)) _ _ _
  refine wpAny_assign_Name (store_ok2 I' hN hiy hx (v := .ref A) rfl (fun s'' I'' hch => ?_) hf)
  obtain ⟨a, hsb, ha⟩ := hch
  have hCa : C ≠ a := by
    rcases ha with z | z
    · rw [z]; exact f'.2.1
    · exact fun e => f'.2.2.2.2.1 y a z e.symm
  refine ⟨m, hm.sameBut hsb hCa, fun h' hs' => ⟨_, H', I''.turned (t' := s''.toks) (fun b o hb e => (hs'.2 b hb).trans e) f'.1 f'.2.1 f'.2.2.2.1 f'.2.2.2.2.1 f'.2.2.2.2.2, qD⟩⟩
end
theorem comp_range {lo : Int} {n : Nat} {te : TE} {js : List Nat} {σ : St} {H1 : Hp} {Q : VK} {D : Addr} (f : Nat → V) (hn : n ≤ sizeLine)
    (he : ∀ (i : Nat) (acc : List V) (R : VK), i < n → R (f i) (upd H1 D (.lst acc)) → te (some (.int (lo + i)) :: js.map fun j => (σ[j]?).getD none) (upd H1 D (.lst acc)) R)
    (hq : Q (.ref D) (upd H1 D (.lst ((List.range n).map f)))) : CompW (Itr lo n) (gName 0) tYes te js σ H1 Q D := by
  refine ⟨fun i m acc σ' H' => m = n - i ∧ i ≤ n ∧ acc = (List.range i).map f ∧ (∃ v, σ' = v :: js.map fun j => (σ[j]?).getD none) ∧ H' = upd H1 D (.lst acc), ⟨n, by simp, Nat.zero_le _, rfl, ⟨none, rfl⟩, rfl⟩, ?_⟩
  rintro i m acc σ' H' ⟨rfl, hi, rfl, ⟨v, rfl⟩, rfl⟩
  refine ⟨upd_same, ?_⟩
  by_cases hlt : i < n
  · refine .inr ⟨hlt, by rw [List.length_map, List.length_range]; omega, ?_⟩
    rintro y H2 ⟨rfl, rfl⟩
    show te (some (V.int (lo + i)) :: js.map fun j => (σ[j]?).getD none) _ _
    refine he i _ _ hlt ⟨upd_same, n - (i + 1), by omega, rfl, hlt, ?_, ⟨_, rfl⟩, ?_⟩
    · rw [List.range_succ, List.map_append]; rfl
    · rw [upd_upd]
  · have e : i = n := by omega
    subst e
    exact .inl ⟨Nat.le_refl _, hq⟩
end L2
namespace L2
open PySem PySem.Spec PyProof.Rows
section
variable {X : Cx}
def tTupRev (K : PySem.W.Frag) (ta : TA) : TE := fun σ H Q => ta σ H fun vs H1 => ∃ a xs, vs = [.ref a] ∧ SqT K H1 a xs ∧ ∀ p, H1 p = none → Q (.ref p) (upd H1 p (.tup xs.reverse))
def tBMT (r : V → List V → Hp → VK → Prop) (to : TE) (t : TA) : TE := fun σ H Q => to σ H fun x H1 => (∃ a xs, x = .ref a ∧ H1 a = some (.tup xs)) ∧ t σ H1 fun xs H2 => r x xs H2 Q
variable {o e : Expr} {es : List Expr} {to : TE} {t : TA} {name : Str} {apos cpos : Pos} {id : String} {r : V → List V → Hp → VK → Prop}
def rIndexT (K : PySem.W.Frag) : V → List V → Hp → VK → Prop := fun x vs H Q => ∃ (a : Addr) (ns : List Int) (k : Int), x = .ref a ∧ vs = [.int k] ∧ SqT K H a (ns.map V.int) ∧ k ∈ ns ∧ Q (.int (ns.idxOf k : Nat)) H
end
end L2
namespace Tn
open PySem L2
def spStir : Sp := fun vs H Q _ => ∃ c k : Int, vs = [.int c, .int k] ∧ ∀ z : Int, Q (.int z) H
def spCell (K : PySem.W.Frag) : Sp := fun vs H Q _ => ∃ (a : Addr) (ns : List Int) (k : Int), vs = [.ref a, .int k] ∧ SqL K H a (ns.map V.int) ∧ ns.length ≤ 63 ∧ 0 ≤ k ∧ k ≤ 1000000 ∧ ∀ z : Int, Q (.int z) H
def spMany : Sp := fun vs H Q _ => ∃ c : Int, vs = [.int c] ∧ ∀ m : Nat, 1 ≤ m → m ≤ 60 → Q (.int (m : Int)) H
def spOrder (K : PySem.W.Frag) : Sp := fun vs H Q _ => ∃ (a : Addr) (ns : List Int) (f : Int) (m : Nat), vs = [.ref a, .int f, .int (m : Int)] ∧ SqL K H a (ns.map V.int) ∧ ns.length ≤ 63 ∧ 0 ≤ f ∧ f ≤ 1000 ∧ m ≤ 60 ∧
  ∀ (l : Addr) (ord : List Int) (H' : Hp), H l = none → H' l = some (.lst (ord.map V.int)) → Same H H' → IsOrd ord → ord.length = m → Q (.ref l) H'
def spTold (K : PySem.W.Frag) : Sp := fun vs H Q _ => ∃ (p d : Addr) (ns : List Int), vs = [.ref p, .ref d] ∧ H p = some (.tup (ns.map V.int)) ∧ ns.length ≤ 1000 ∧ (SqL K H d (ns.map V.int) ∨ SqT K H d (ns.map V.int)) ∧ ∀ H', Same H H' → Q (.bl true) H'
structure Blt (mg : Str → Option Value) : Prop where
  len : mg "len" = none
  rng : mg "range" = none
  lst : mg "list" = none
  tup : mg "tuple" = none
  isi : mg "isinstance" = none
  int : mg "int" = none
  bl : mg "bool" = none
theorem boot_isi : bootBuiltins "isinstance" = some (.builtin "isinstance") := by decide +kernel
theorem boot_ty_tuple : bootBuiltins "tuple" = some (.type "tuple") := by decide +kernel
theorem boot_ty_int : bootBuiltins "int" = some (.type "int") := by decide +kernel
theorem boot_ty_list : bootBuiltins "list" = some (.type "list") := by decide +kernel
theorem same_upd {H : Hp} {a : Addr} {o : HO} (h : H a = none) : Same H (upd H a o) := fun b u e => by rw [upd_ne (ne_of_none e h)]; exact e
theorem ints_get {ns : List Int} {i : Nat} {y : V} (h : (ns.map V.int)[i]? = some y) : ∃ z, ns[i]? = some z ∧ y = V.int z := by
  rw [List.getElem?_map] at h
  cases e : ns[i]? with
  | none => rw [e] at h; cases h
  | some z => rw [e] at h; exact ⟨z, rfl, (Option.some.inj h).symm⟩
theorem get_ints {ns : List Int} {i : Nat} {z : Int} (h : ns[i]? = some z) : (ns.map V.int)[i]? = some (V.int z) := by
  rw [List.getElem?_map, h]; rfl
theorem at_ints {ns : List Int} {j : Nat} {z : Int} (h : ns[j]? = some z) : atI (ns.map V.int) (j : Int) = some (V.int z) := atI_nat (get_ints h)
theorem line1000 {n : Nat} (h : n ≤ 1000) : n ≤ sizeLine := Nat.le_of_lt (small1000 h)
section
variable {P : Program} {w : World} {K : PySem.W.Frag} {mg : Str → Option Value} {base : Heap}
end
end Tn
namespace Tn
open PySem PySem.W PySem.Calls PyProof.Rows PySem.Spec PySem.Builtin PySem.Builtin.ObjectAttr PySem.Builtin.Getset_descriptor
structure ExcTxt (K : Frag) (D : Addr) : Prop where
  cls : (clsIn K D).isSome = true
  ga : findIn K (.ref D) "__getattribute__" = some (some (.builtin "BaseException.__getattribute__"))
  hook : findIn K (.ref D) "__getattr__" = some none
  ca : findIn K (.ref D) "__class__" = some (some (.builtin "object.__class__"))
  sp : specialIn K (.builtin "object.__class__") "__get__" = some (some (.builtin "getset_descriptor.__get__"))
  tk : takesIn K (.builtin "object.__class__") = some true
  ob : mroIn K D (.type "object") = some true
  be : mroIn K D (.type "BaseException") = some true
theorem ga_bind (v : Value) : bindSpecial (.builtin "BaseException.__getattribute__") v = pure (.builtin "BaseException.__getattribute__", [v]) := F.excAttr_ValueError.ga.bind v
theorem ga_kind : builtinKind "BaseException.__getattribute__" = some .slot := by decide +kernel
theorem ga_split : splitId "BaseException.__getattribute__" = some ("BaseException", "__getattribute__") := by decide +kernel
def ExAt (h : Heap) (x D : Addr) : Prop := ∃ ox, h.get? x = some ox ∧ ox.cls = .ref D
section
variable {prog : Program} {w : World} {A : Around} {E : Value → Shared → Prop} {s : Shared} {K : Frag} {x D : Addr}
theorem ExAt.type {M : Model} {h : Heap} (I : ExAt h x D) : Looks M h (typeOf (.ref x)) (.ref D) := by
  obtain ⟨ox, hx, hc⟩ := I
  exact hc ▸ (Looks.ld hx).andThen .now
theorem look_data {M : Model} {h : Heap} {a g : Value} {name : Str} (X : K.In h) (ha : findIn K (.ref D) name = some (some a)) (hg : specialIn K a "__get__" = some (some g)) (ht : takesIn K a = some true) :
    Looks M h (find (.ref x) (.ref D) name) (.bind g a) := by
  have L1 := looks_findIn (M := M) X ha
  have L2 : Looks M h (getOf (some a)) (some g) := looks_specialIn X hg
  have L3 := looks_takesIn (M := M) X ht
  have L4 : Looks M h (dataDescriptor? (some a) (some g)) (some (g, a)) := L3.andThen .now
  exact L1.andThen (L2.andThen (L4.andThen (Looks.tag .now)))
theorem class_of {tp : Value} {R : Result → Shared → Prop} (X : K.In s.heap) (I : ExAt s.heap x D) (hm : mroIn K D (.type "object") = some true) (h : R (.ok (.ret (.ref D))) s) :
    codeAny (model prog w) A (.call (.builtin "getset_descriptor.__get__") ⟨[.builtin "object.__class__", .ref x, tp], []⟩) R s := by
  obtain ⟨hh, g, dr, t, os⟩ := s
  have T0 := I.type (M := model prog w)
  have T1 := looks_mroIn (M := model prog w) X hm
  refine codeAny_call_builtin KF.slot_gs.plain KF.entry_gs (KF.slot_gs.check _ _ _ _ _ _ _ _ KF.type_class (KF.args_gs _ _ _) ?_)
  unfold Builtin.«getset_descriptor.__get__»
  unfold descrGet
  rw [dga_obj]; refine wpAny_bind (wpAny_pure ?_)
  unfold descrGetter descrCheckInstance
  unfold descrNameAndClass isInstance
  simp only [KF.owner_class]; repeat lk
  refine ⟨Code.quiet_builtin _ (by decide +kernel), ?_⟩
  refine codeAny_builtin KF.entry_class ?_
  unfold Builtin.«object.__class__»
  unfold shownTypeOf
  repeat lk
  exact h
theorem exc_class {Q : Option Value → Shared → Prop} (X : K.In s.heap) (T : ExcTxt K D) (I : ExAt s.heap x D) (h : Q (some (.ref D)) { s with toks := s.toks + 1 }) : wpAny (model prog w) A (getAttr? (.ref x) "__class__") Q E s := by
  obtain ⟨hh, g, d, t, os⟩ := s
  have L0 := I.type (M := model prog w)
  have L1 := looks_findIn (M := model prog w) X T.ga
  have L2 := looks_findIn (M := model prog w) X T.hook
  have L3 := look_data (M := model prog w) (x := x) X T.ca T.sp T.tk
  have L4 : Looks (model prog w) hh (isInstance (.ref x) (.type "BaseException")) true := L0.andThen (looks_subIn X T.be)
  unfold getAttr? getAttrBy? getAttrBy
  refine wpAny_bind (wpAny_mkText (wpAny_bind (wpAny_attempt (wpAny_holding (wpAny_bind (L0.at (wpAny_bind (L1.at ?_))))))))
  show wpAny _ _ (getAttrByItsOwn _ _ _ _ _ _) _ _ _
  unfold getAttrByItsOwn hookBefore
  refine wpAny_bind (L2.at ?_)
  refine wpAny_bind (wpAny_attempt (wpAny_holding ?_))
  show wpAny _ _ (boundAndCalled _ _ _) _ _ _
  unfold boundAndCalled
  refine wpAny_bind (wpAny_of_eq (ga_bind _) ?_)
  show wpAny _ _ (call (.builtin "BaseException.__getattribute__") [.ref x, .str "__class__" t]) _ _ _
  refine wpAny_call (codeAny_call_builtin F.excAttr_ValueError.ga.plain F.entry_bexc_ga ?_)
  have ha := F.args_bexc_ga (.ref x) (.str "__class__" t)
  simp only [checkBuiltinCall, ga_kind, ga_split]
  refine wpAny_bind (L4.at ?_)
  rw [if_neg (by decide)]
  have go : wpAny (model prog w) A.in1 (Builtin.«object.__getattribute__» ⟨[.ref x, .str "__class__" t], []⟩) (fun fin s' => fin = .done (.ret (.ref D)) ∧ s' = ⟨hh, g, d, t + 1, os⟩) (fun _ _ => False) ⟨hh, g, d, t + 1, os⟩ := by
    unfold Builtin.«object.__getattribute__»
    refine wpAny_bind (wpAny_of_eq (a := (Value.ref x, [Value.str "__class__" t])) rfl ?_)
    refine wpAny_bind (wpAny_of_eq (a := Str.ofString "__class__") rfl ?_)
    refine wpAny_bind (L0.at ?_)
    refine wpAny_bind (L3.at ?_)
    show wpAny _ _ (holding [.builtin "object.__class__"] (call (.builtin "getset_descriptor.__get__") [.builtin "object.__class__", .ref x, .ref D]) >>= ret) _ _ _
    refine wpAny_bind (wpAny_holding (wpAny_call (class_of (s := ⟨hh, g, d, t + 1, os⟩) X I T.ob ?_)))
    exact wpAny_pure ⟨rfl, rfl⟩
  have fin : ∀ (fn : Fin) (s' : Shared), (fn = .done (.ret (.ref D)) ∧ s' = ⟨hh, g, d, t + 1, os⟩) → wpAny (model prog w) A (handedOut (.ref D)) (fun a s' => wpAny (model prog w) A (pure (some a)) Q E s') (fun e s' => wpAny (model prog w) A (do
      let b ← isInstance e (Value.type "AttributeError")
      if b = true then pure none else throw e) Q E s') s' := by
    rintro fn s' ⟨_, rfl⟩
    exact handed_on rfl (wpAny_pure h)
  cases hsig : Manifest.signature? "BaseException.__getattribute__" with
  | none =>
    refine wpAny_pure (wpAny_mono go (fun fn s' z => ?_) fun _ _ z => z.elim)
    have := fin fn s' z
    obtain ⟨rfl, _⟩ := z
    exact this
  | some sig =>
    simp only [argsOk, hsig] at ha
    have h2 : Bind.checkArgs "BaseException.__getattribute__" sig ⟨[.ref x, .str "__class__" t], []⟩ = pure () := ha
    show wpAny _ _ (Bind.checkArgs "BaseException.__getattribute__" sig ⟨[.ref x, .str "__class__" t], []⟩) _ _ _
    rw [h2]
    refine wpAny_pure (wpAny_mono go (fun fn s' z => ?_) fun _ _ z => z.elim)
    have := fin fn s' z
    obtain ⟨rfl, _⟩ := z
    exact this
theorem kitx_exc (T : ExcTxt K D) : KitX K (.ref x) (.ref D) (fun h => ExAt h x D) where
  ty := fun _ _ _ I => I.type
  it := fun _ _ X _ => by
    have hcD := T.cls
    unfold clsIn at hcD
    split at hcD
    · rename_i ho
      intro A' Q' E' s' k q
      unfold isType loadHead
      exact wpAny_bind (wpAny_loadPart (k _ _ (X _ _ ho)) (wpAny_pure q))
    · cases hcD
  ne := fun h tp dd its n sl X htp => by
    have hcD := T.cls
    refine Bool.eq_false_iff.mpr fun q => ?_
    have e : D = tp := Value.ref.inj (beq_iff_eq.mp q)
    subst e
    unfold clsIn at hcD
    split at hcD
    · rename_i ho
      have z := (X _ _ ho).symm.trans htp
      cases z
    · cases hcD
  ca := fun X I k => exc_class X T I k
theorem exc_match {C : Addr} {Q : Bool → Shared → Prop} (X : K.In s.heap) (T : ExcTxt K D) (I : ExAt s.heap x D) (hC : (clsIn K C).isSome = true) (hty : typeIn K (.ref C) = some (.type "type")) (hb : mroIn K C (.type "BaseException") = some true) (hm : mroIn K D (.ref C) = some true)
    (h : Q true s) : wpAny (model prog w) A (excMatches (.ref x) (.ref C)) Q E s := by
  obtain ⟨hh, g, d, t, os⟩ := s
  have L0 := I.type (M := model prog w)
  have L1 : Looks (model prog w) hh (isInstance (.ref C) (.type "tuple")) false := (looks_typeIn (M := model prog w) X hty).andThen (Looks.of_pure (by rw [isSubtype_type]; kernel_rfl))
  have L2 : Looks (model prog w) hh (isType (.ref C)) true := by
    unfold clsIn at hC
    split at hC
    · rename_i ho
      intro A' Q' E' s' k q
      unfold isType loadHead
      exact wpAny_bind (wpAny_loadPart (k _ _ (X _ _ ho)) (wpAny_pure q))
    · cases hC
  have L3 : Looks (model prog w) hh (isSubtype (.ref C) (.type "BaseException")) true := looks_subIn X hb
  have L4 : Looks (model prog w) hh (isSubtype (.ref D) (.ref C)) true := looks_subIn X hm
  unfold excMatches
  refine wpAny_bind (L1.at ?_)
  rw [if_neg Bool.false_ne_true]
  refine wpAny_bind (wpAny_pure ?_)
  simp only [List.forIn_cons, List.forIn_nil]
  unfold isExcClass
  refine wpAny_bind (wpAny_bind (wpAny_bind (wpAny_bind (L2.at ?_))))
  rw [if_pos rfl]
  refine L3.at ?_
  rw [if_neg (by decide)]
  refine wpAny_pure (wpAny_pure ?_)
  refine wpAny_bind (L0.at ?_)
  refine wpAny_bind (wpAny_bind (wpAny_bind (L4.at ?_)))
  rw [if_pos rfl]
  exact wpAny_pure (wpAny_pure (wpAny_pure h))
end
end Tn
namespace Tn
open L2 PySem PySem.W PySem.Calls PyProof.Rows PySem.Spec
section
variable {P : Program} {w : World} {H H' : Hp} {h : Heap} {a : Addr} {o : HO}
theorem obj_has (x : ObjOk P w H h a o) : ∃ u, h.get? a = some u := by
  cases o with
  | lst xs => obtain ⟨_, _, _, _, e⟩ := x; exact ⟨_, e⟩
  | tup xs => obtain ⟨_, _, _, _, e, _⟩ := x; exact ⟨_, e⟩
  | dK kvs => obtain ⟨_, _, _, _, o, _, _, e, _⟩ := x; exact ⟨_, e⟩
  | dT kvs => obtain ⟨_, _, _, _, o, _, _, e, _⟩ := x; exact ⟨_, e⟩
  | set S n => obtain ⟨o, _, _, _, e, _⟩ := x; exact ⟨_, e⟩
  | ins C dx fs => obtain ⟨_, _, _, e, _⟩ := x; exact ⟨_, e⟩
  | own y => obtain ⟨_, e⟩ := x; exact ⟨_, e⟩
  | xd fs => obtain ⟨_, ⟨_, _, _, e, _⟩, _⟩ := x; exact ⟨_, e⟩
  | rng lo hi => obtain ⟨_, _, _, e⟩ := x; exact ⟨_, e⟩
  | frz ob u => obtain ⟨e, _⟩ := x; exact ⟨_, e⟩
  | tbl ps => exact ⟨_, (show h.get? a = some _ from x)⟩
  | met f y => exact ⟨_, (show h.get? a = some _ from x)⟩
  | ext φ => obtain ⟨_, ⟨_, e⟩, _⟩ := x; exact ⟨_, e⟩
end
structure Cover (B h0 : Heap) (fs : List Addr) (H' : Hp) : Prop where
  trk : ∀ a o, H' a = some o → ∃ u, B.get? a = some u
  std : ∀ b o, h0.get? b = some o → b ∉ fs → ∃ u, B.get? b = some u
theorem lie_step {P : Program} {w : World} {fs : List Addr} {H H' : Hp} {B h0 h h' : Heap} (u : Un fs [] H H' h0 h) (ok : HOk P w H' h) (c : Cover B h0 fs H') (hf : ∀ b ∈ fs, ∃ o, h.get? b = some o ∧ ∀ vs, o.data ≠ .fields vs)
    (k : B.StaysIn h) (k' : B.StaysIn h') (sl : h.UpToSlots h') : Un fs [] H H' h0 h' ∧ HOk P w H' h' := by
  have inB : ∀ b o v, B.get? b = some v → h.get? b = some o → h'.get? b = some o := fun b o v e q => by
    have := k b v e
    rw [q] at this; cases this
    exact k' b _ e
  refine ⟨⟨fun b o e n hb hx => ?_, fun b o e n hb hx => ?_, u.free, fun b o e hx => ?_, u.tups, u.frzs, u.tbls⟩, fun a o e => ?_⟩
  · obtain ⟨v, hv⟩ := c.std b o e hb
    exact inB b o v hv (u.keep b o e n hb hx)
  · obtain ⟨s1, e1⟩ := u.slot b o e n hb hx
    obtain ⟨o2, e2, d2⟩ := hf b hb
    rw [e1] at e2; cases e2
    obtain ⟨s2, e3⟩ := sl b _ e1 d2
    exact ⟨s2, e3⟩
  · obtain ⟨o1, e1⟩ := u.there b o e hx
    by_cases hb : b ∈ fs
    · obtain ⟨o2, e2, d2⟩ := hf b hb
      obtain ⟨s2, e3⟩ := sl b _ e2 d2
      exact ⟨_, e3⟩
    · obtain ⟨v, hv⟩ := c.std b o e hb
      exact ⟨_, inB b o1 v hv e1⟩
  · refine (ok a o e).stay (fun b v hb q => ?_) (fun _ q => q) fun _ _ q => q
    rcases hb with rfl | hb
    · obtain ⟨z, hz⟩ := c.trk _ _ e
      exact inB _ v z hz q
    · obtain ⟨z, hz⟩ := c.trk _ _ hb
      exact inB _ v z hz q
def CXV (P : Program) (w : World) : CXT := fun outer H s E e s' => ∃ (x : Addr) (cls a0 : Value) (B : Heap) (H' : Hp), e = .ref x ∧ s'.os = s.os ∧ AllBare s'.gens ∧ Un (frs outer) [] H H' s.heap s'.heap ∧ HOk P w H' s'.heap ∧
  Heap.FlyingW B outer x cls a0 s'.heap ∧ Cover B s.heap (frs outer) H' ∧ H' x = none ∧ E cls none H'
theorem fly_frames {B h : Heap} {l : List Env} {x : Addr} {cls a0 : Value} (f : Heap.FlyingW B l x cls a0 h) : ∀ b ∈ frs l, ∃ o, h.get? b = some o ∧ ∀ vs, o.data ≠ .fields vs := fun b hb => (f.2.2.1.mem hb).2
section
variable {P : Program} {w : World} {K : Frag} {mg : Str → Option Value} {base : Heap} {N : List Str} {qual : Str} {scope : Scope} {f : Addr} {cd : Value} {A : Around} {outer : List Env} {s : Shared} {H : Hp} {E : XK}
theorem out_std {X : Cx} {pins : List (Addr × Obj)} {σ : L2.St} {H1 : Hp} {s1 : Shared} (I : Inv X pins σ H1 s1) (hx : X.ex = []) : ∀ b o, X.s₀.heap.get? b = some o → b ∉ X.fs → (∃ o', s1.heap.get? b = some o') ∧ b ∉ frs X.stack := fun b o e hb => by
  refine ⟨I.base.there b o e (by rw [hx]; simp), fun hz => ?_⟩
  rcases List.mem_cons.mp (I.stkSub b hz) with q | q
  · have h1 := Heap.lt_size e
    have h2 := I.ok.above
    rw [q] at h1
    exact absurd (Nat.lt_of_lt_of_le h1 h2) (Nat.lt_irrefl _)
  · exact hb q
theorem passV : Passes (CXV P w) (cxOf (CXV P w) P w K mg base N qual scope f cd A outer s H E) E := by
  intro pins σ H1 s1 e s' I h
  obtain ⟨x, cls, a0, B, H', rfl, os, bare, un, hok, fl, c, hn, hE⟩ := h
  show wpAny _ _ (leaving _ _) _ _ _
  refine wpAny_leaves_onW (base := B) (cls := cls) (a0 := a0) I.ok.frames rfl fl fun h2 fl2 sl => ?_
  obtain ⟨un2, hok2⟩ := lie_step un hok c (fly_frames fl) fl.1 fl2.1 sl
  have J := I.call' (s' := { s' with heap := h2 }) (ch := []) os un2 hok2 bare (fun b z => absurd z (by simp))
  refine ⟨x, cls, a0, B, H', rfl, J.os, J.bare, J.base, J.hok, fl2, ⟨c.trk, fun b o e hb => ?_⟩, hn, hE⟩
  obtain ⟨⟨o', e'⟩, nb⟩ := out_std I rfl b o e hb
  exact c.std b o' e' nb
def Throws (X : Cx) (E : XK) : Prop := ∀ (pins : List (Addr × Obj)) (σ : L2.St) (H1 : Hp) (s1 : Shared) (h' : Heap) (e C : Addr) (vs : List Value), Inv X pins σ H1 s1 → Heap.MadeExcOf s1.heap h' e (.ref C) vs → E (.ref C) none H1 → X.xe (.ref e) { s1 with heap := h' }
theorem throwV : Throws (cxOf (CXV P w) P w K mg base N qual scope f cd A outer s H E) E := by
  intro pins σ H1 s1 h' e C vs I m hE
  show wpAny _ _ (leaving _ _) _ _ _
  have st := I.stack
  have hin : ∀ env ∈ (cxOf (CXV P w) P w K mg base N qual scope f cd A outer s H E).stack, ∀ b, env.frame = some b → b ∈ frs (cxOf (CXV P w) P w K mg base N qual scope f cd A outer s H E).stack := fun env he b hb => List.mem_filterMap.mpr ⟨env, he, hb⟩
  refine wpAny_leaves_madeW (base := hideAll s1.heap (frs (cxOf (CXV P w) P w K mg base N qual scope f cd A outer s H E).stack)) I.ok.frames rfl (fun b o q => of_hideAll _ q) (funFrames_hide st hin) m fun h2 t fl _ _ sl => ?_
  have c : Cover (hideAll s1.heap (frs (cxOf (CXV P w) P w K mg base N qual scope f cd A outer s H E).stack)) s1.heap (frs (cxOf (CXV P w) P w K mg base N qual scope f cd A outer s H E).stack) H1 :=
    ⟨fun a o q => by
      obtain ⟨u, hu⟩ := obj_has (I.hok a o q)
      exact ⟨u, hideAll_get _ hu fun z => by rw [I.stkFree a z] at q; cases q⟩, fun b o q hb => ⟨o, hideAll_get _ q hb⟩⟩
  have fr : ∀ b ∈ frs (cxOf (CXV P w) P w K mg base N qual scope f cd A outer s H E).stack, ∃ o, h'.get? b = some o ∧ ∀ vs, o.data ≠ .fields vs := fun b hb => by
    obtain ⟨_, o, ho, hd⟩ := st.mem hb
    exact ⟨o, m.keeps b o ho, hd⟩
  obtain ⟨un2, hok2⟩ := lie_step (Un.kept m.keeps) (I.hok.kept m.keeps) c fr (fun b o q => m.keeps b o (of_hideAll _ q)) fl.1 sl
  have J := I.call' (s' := { s1 with heap := h2 }) (ch := []) rfl un2 hok2 I.bare (fun b z => absurd z (by simp))
  refine ⟨e, .ref C, .ref t, _, H1, rfl, J.os, J.bare, J.base, J.hok, fl, ⟨c.trk, fun b o e hb => ?_⟩, ?_, hE⟩
  · obtain ⟨⟨o', e'⟩, nb⟩ := out_std I rfl b o e hb
    exact c.std b o' e' nb
  · cases q : H1 e with
    | none => rfl
    | some o =>
      obtain ⟨u, hu⟩ := obj_has (I.hok e o q)
      rw [m.new] at hu; cases hu
theorem funV {x : Str} {st : Stmt} {fd : FuncData} {ps : List Str} {k : Nat} {sp : Sp} (F : L2.Fun K x qual st f fd) (S : FnScope N ps (defScope st)) (len : ∀ vs H Q E, sp vs H Q E → vs.length = ps.length)
    (hbody : ∀ (cdv : Value) (A : Around) (outer : List Env) (s : Shared) (H : Hp) (vs : List V) (Q : VK) (E : XK), Room k (A.deeper (envOfC qual (defScope st) s.heap.objs.size f cdv)) → sp vs H Q E →
      ∃ t, PSs (cxOf (CXV P w) P w K mg base N qual (defScope st) f cdv A outer s H E) (defBody st) t ∧ t { nx := fun _ H' => Q .non H', rt := Q } (start N vs) H) : FnOk P w K mg base (CXV P w) (k + 1) f fd ps sp := by
  obtain ⟨oc, od, kV, doc, pm, an, cdv, ct, osl, rfl, lk, hcd⟩ := F.ex
  exact fn_of lk hcd S len fun A outer s H vs Q E hr hsp => hbody cdv A outer s H vs Q E hr hsp
end
theorem exc_obj {K : Frag} {h : Heap} {C : Addr} {bmB : List Value} {newId : String} (X : K.In h) (q : excIn K C bmB newId = true) :
    ∃ bm N nm qn bs hdct sn sub ab col dd k0 k1 k2 k3 k5 mN, h.get? C = some (excClassObj nm qn C N bs bm hdct sn sub ab col dd k0 k1 k2 k3 k5 newId) ∧ h.Ns N mN ∧ mN "__init__" = none ∧ OwnTail h bmB bm := by
  unfold excIn at q
  split at q
  case h_2 => cases q
  rename_i dd cd sl ho
  split at q
  case h_2 => cases q
  rename_i C' bm k0 k1 k2 k3 n k5 hm hs
  simp only [Bool.and_eq_true, beq_iff_eq, Bool.not_eq_true'] at q
  obtain ⟨⟨⟨⟨⟨e1, e2⟩, e3⟩, e4⟩, e5⟩, e6⟩ := q
  subst e1 e2
  obtain ⟨nm, bs, mro, ns, qn, hd, sn, sub, ab, col, del⟩ := cd
  dsimp only at hm e3 e5 e6
  subst hm e3
  obtain ⟨l⟩ := sl
  simp only at hs
  subst hs
  exact ⟨bm, ns, nm, qn, bs, hd, sn, sub, ab, col, dd, k0, k1, k2, k3, k5, h.nsMap ns, X _ _ ho, .of_isNs (isNs_of_in X e5), nsMap_none_of_in X e5 e6, tail_of_in X e4⟩
def sRaise (C : Addr) (E : XK) (t : TA) : TS := fun _ σ H => t σ H fun vs H1 => vs.length ≤ sizeLine ∧ E (.ref C) none H1
abbrev bmVE : List Value := [.type "ValueError", .type "Exception", .type "BaseException", .type "object"]
theorem ps_raise {X : Cx} {E : XK} {x : Str} {np cpos pos : Pos} {e : Expr} {es : List Expr} {t : TA} {C : Addr} (ht : Throws X E) (hc : X.calm = true) (hg : Gl X x) (hm : X.mg x = some (.ref C)) (hC : excIn X.K C bmVE "ValueError.__new__" = true) (ha : PA X (e :: es) t)
    (hd : (x == ("__debug__" : Str)) = false := by decide) (he : starEach (e :: es) X.env = (false, eval e X.env) :: starEach es X.env := by rfl) (hpl : (backTo cpos (starEach es X.env)).any (·.1) = false := by rfl) :
    PS X (.Raise (some (.Call (.Name x np) (e :: es) [] cpos)) none pos) (sRaise C E t) := by
  intro pins s σ H D I h
  obtain ⟨bm, N, nm, q, bs, hdct, sn, sub, ab, col, dd, k0, k1, k2, k3, k5, mN, o1, o2, o3, o4⟩ := exc_obj I.ok.mod.kin hC
  have hpl2 : (backTo cpos (starEach (e :: es) X.env)).any (·.1) = false := by
    rw [he]; show (false || (backTo cpos (starEach es X.env)).any (·.1)) = false; rw [hpl]; rfl
  refine wpAny_Raise_call_subT F.excBase_ValueError (C := C) (N := N) (nm := nm) (q := q) (bs := bs) (bm := bm) (hdct := hdct) (sn := sn) (sub := sub) (ab := ab) (col := col) (dd := dd) (k0 := k0) (k1 := k1) (k2 := k2) (k3 := k3) (k5 := k5) (mN := mN)
    (o4.hasType F.excBase_ValueError.hasBase) (I.ok.hd hc) hpl2 o3 (ld_glob I hg hm ⟨rfl, ?_⟩ hd)
  have key := ha cpos pins s σ H _ I h
  rw [he] at key ⊢
  refine Calls.evalArgs_plain (wpAny_mono key (fun us s2 z => ?_) fun _ _ y => y)
  obtain ⟨vs, H1, I1, r, hl, hE⟩ := z
  have kp := I1.bk
  exact ⟨rfl, by rw [← r.length]; exact hl, kp _ _ o1, o2.keeps kp, o4.keeps kp, fun h' e m => ht pins σ H1 s2 h' e C us I1 m hE⟩
end Tn
namespace Tn
open L2 PySem PySem.W PySem.Calls PyProof.Rows PySem.Spec
abbrev caught (X : Cx) (x : Addr) : Cx := { X with A := X.A.mark (some (.ref x)), calm := false, xe := fun _ _ => False }
theorem caught_ok {X : Cx} (ok : X.Ok) (x : Addr) : (caught X x).Ok :=
  ⟨ok.mod, ok.kind, ok.glob, ok.blt, ok.above, ok.inj, ok.has, ok.cab, fun z => (nomatch z), ok.frames, ok.stk, ok.exf, ok.bs, ok.bsz, ok.noex, ok.exfs, ok.funs, ok.frf⟩
section
variable {X : Cx} {pins : List (Addr × Obj)} {σ : L2.St} {H : Hp} {s : Shared}
theorem to_caught (I : Inv X pins σ H s) (x : Addr) : Inv (caught X x) pins σ H s := ⟨caught_ok I.ok x, I.os, I.bare, I.base, I.loc, I.cell, I.free, I.freeC, I.pin, I.hok, I.len⟩
theorem of_caught {x : Addr} (ok : X.Ok) (I : Inv (caught X x) pins σ H s) : Inv X pins σ H s := ⟨ok, I.os, I.bare, I.base, I.loc, I.cell, I.free, I.freeC, I.pin, I.hok, I.len⟩
theorem name_gone {M : Model} {A : Around} {E : Value → Shared → Prop} {i : Nat} {n : Str} {pos : Pos} {Q : Unit → Shared → Prop} (I : Inv X pins σ H s) (hN : X.N.Nodup) (hi : X.N[i]? = some n) (hk : X.env.kindOf n = some .local)
    (h : ∀ s', Inv X pins (σ.set i none) H s' → Q () s') : wpAny M A (do bindName X.env n .none; unbindBehindTheSuite X.env n pos) Q E s := by
  obtain ⟨m, hn, hl⟩ := id I.loc
  have hcls : (X.env.scope.kind == .class || (X.env.scope.kind == .module && X.env.locals != X.env.globals)) = false := by rw [I.ok.kind]; rfl
  refine wpAny_nameGoes_keeps hk hn hcls fun h' v hn' hs => h _ ?_
  have hiσ : i < σ.length := by rw [I.len]; exact (List.getElem?_eq_some_iff.mp hi).1
  obtain ⟨oL, _, _, hoL, _⟩ := id hn
  have ne0 : ∀ b o, X.s₀.heap.get? b = some o → b ≠ X.env.locals := fun b o e => Nat.ne_of_lt (Nat.lt_of_lt_of_le (Heap.lt_size e) I.ok.above)
  have tracked : HOk X.prog X.w H h' := fun b ob e => by
    refine (I.hok b ob e).stay (fun c w' hc q => (hs.2 c ?_).trans q) (fun _ q => q) fun _ _ q => q
    rintro rfl
    rcases hc with rfl | hc
    · rw [I.free] at e; cases e
    · rw [I.free] at hc; cases hc
  refine ⟨I.ok, I.os, I.bare, ⟨fun b o e n hb hx => (hs.2 b (ne0 b o e)).trans (I.base.keep b o e n hb hx), fun b o e n hb hx => ?_, I.base.free, fun b o e hx => ?_, I.base.tups, I.base.frzs, I.base.tbls⟩, ⟨_, hn', fun j y v' e1 e2 e3 => ?_⟩, fun y c e => ?_, I.free, I.freeC, fun p hp => ?_, tracked, by simpa using I.len⟩
  · obtain ⟨sl, e1⟩ := I.base.slot b o e n hb hx
    exact ⟨sl, (hs.2 b (ne0 b o e)).trans e1⟩
  · obtain ⟨o', e1⟩ := I.base.there b o e hx
    exact ⟨o', (hs.2 b (ne0 b o e)).trans e1⟩
  · have hj : j ≠ i := by
      rintro rfl
      rw [List.getElem?_set_self hiσ] at e2
      cases e2
    rw [List.getElem?_set_ne (Ne.symm hj)] at e2
    obtain ⟨u', r', q⟩ := hl j y v' e1 e2 e3
    refine ⟨u', r', ?_⟩
    rcases q with ⟨k, e⟩ | ⟨k, c, e, z⟩
    · have ny : y ≠ n := fun e => hj (nodup_ix hN e1 (e ▸ hi))
      exact .inl ⟨k, by simp [ny, e]⟩
    · exact .inr ⟨k, c, e, z.sameBut hs (I.cne y c e)⟩
  · obtain ⟨w', z⟩ := I.cell y c e
    exact ⟨w', z.sameBut hs (I.cne y c e)⟩
  · obtain ⟨e, n, ne, nf, d⟩ := I.pin p hp
    exact ⟨(hs.2 p.1 ne).trans e, n, ne, nf, d⟩
end
abbrev exO (x D : Addr) : HO := .ext fun h => ExAt h x D
theorem exO_ok {P : Program} {w : World} {H : Hp} {h : Heap} {x D : Addr} (e : ExAt h x D) : ObjOk P w H h x (exO x D) :=
  ⟨e, let ⟨o, q, _⟩ := e; ⟨o, q⟩, fun _ _ ⟨o, q, c⟩ k => ⟨o, k o q, c⟩⟩
theorem un_ext {fs : List Addr} {H H' : Hp} {h h' : Heap} {x : Addr} {o : HO} (u : Un fs [] H H' h h') (hx : h.get? x = none) (hn : H' x = none) : Un fs [] H (upd H' x o) h h' :=
  ⟨u.keep, u.slot, fun b ob e n hx' => by
    have : b ≠ x := by rintro rfl; rw [hx] at e; cases e
    rw [upd_ne this]; exact u.free b ob e n hx', u.there, fun b xs e => by
    have z := u.tups b xs e
    rw [upd_ne (ne_of_none z hn)]; exact z, fun b ob v e => by
    have z := u.frzs b ob v e
    rw [upd_ne (ne_of_none z hn)]; exact z, fun b ps e => by
    obtain ⟨m, z⟩ := u.tbls b ps e
    exact ⟨m, by rw [upd_ne (ne_of_none z hn)]; exact z⟩⟩
theorem hok_ext {P : Program} {w : World} {H' : Hp} {h' : Heap} {x D : Addr} (ok : HOk P w H' h') (hn : H' x = none) (e : ExAt h' x D) : HOk P w (upd H' x (exO x D)) h' := fun b u q => by
  by_cases hb : b = x
  · subst hb; rw [upd_same] at q; cases q; exact exO_ok e
  · rw [upd_ne hb] at q
    exact (ok b u q).stay (fun _ _ _ z => z) (fun c z => by rw [upd_ne (ne_of_none z hn)]; exact z) fun c xs z => by rw [upd_ne (ne_of_none z hn)]; exact z
theorem fly_new {B h h0 : Heap} {l : List Env} {x : Addr} {cls a0 : Value} {H' : Hp} (f : Heap.FlyingW B l x cls a0 h) (c : Cover B h0 (frs l) H') : h0.get? x = none := by
  cases q : h0.get? x with
  | none => rfl
  | some o =>
    exfalso
    by_cases hx : x ∈ frs l
    · obtain ⟨o1, e1, d1⟩ := fly_frames f x hx
      obtain ⟨_, _, _, oe, vs, _, _, _, he, _, hd, _⟩ := f
      rw [he] at e1; cases e1
      exact d1 vs hd
    · obtain ⟨u, hu⟩ := c.std x o q hx
      rw [f.2.1] at hu; cases hu
def sTry (K : Frag) (C : Addr) (sp : Sp) (t : TA) (i : Nat) (tH : Addr → TS) : TS := fun D σ H => t σ H fun vs H1 => sp vs H1 (fun _ H2 => D.nx σ H2) fun cls _ H2 => ∃ Dd, cls = .ref Dd ∧ ExcTxt K Dd ∧ mroIn K Dd (.ref C) = some true ∧
  ∀ x, H2 x = none → tH x { nx := fun σ' H' => D.nx (σ'.set i none) H', rt := fun _ _ => False } (σ.set i (some (.ref x))) (upd H2 x (exO x Dd))
structure CatTxt (K : Frag) (C : Addr) : Prop where
  cls : (clsIn K C).isSome = true
  ty : typeIn K (.ref C) = some (.type "type")
  be : mroIn K C (.type "BaseException") = some true
def rIsX (K : Frag) : List V → Hp → VK → Prop := fun xs H Q => ∃ x D c b, xs = [.ref x, c] ∧ H x = some (exO x D) ∧ ExcTxt K D ∧
  ((∃ n, c = .ty n ∧ kitOne K (.ref D) (.type n) = some b) ∨ (∃ C, c = .ref C ∧ kitOne K (.ref D) (.ref C) = some b) ∨ ∃ (tp : Addr) (cs : List Addr), c = .ref tp ∧ H tp = some (.tup (cs.map V.ref)) ∧ kitAny K (.ref D) (cs.map Value.ref) = some b) ∧ Q (.bl b) H
theorem refs_vals : ∀ (cs : List Addr) {us : List Value}, Vals (cs.map V.ref) us → us = cs.map Value.ref
  | [], _, .nil => rfl
  | c :: cs, _, .cons r t => by rw [refs_vals cs t]; cases r; rfl
theorem call_isx {X : Cx} : CallR X (.builtin "isinstance") (rIsX X.K) := by
  intro pins s σ H xs us Q I r h
  obtain ⟨x, D, c, b, rfl, hx, T, hc, q⟩ := h
  obtain ⟨u, w', rfl, rx, ry⟩ := vals2 r
  obtain rfl : u = Value.ref x := rx
  obtain ⟨ex, _⟩ := I.hok x _ hx
  have fin : ∀ tk, EP X pins σ Q (.bool b) { s with toks := tk } := fun tk => ⟨.bl b, H, I.tok _, rfl, q⟩
  rcases hc with ⟨n, rfl, e⟩ | ⟨C, rfl, e⟩ | ⟨tp, cs, rfl, ht, e⟩
  · obtain rfl : w' = Value.type n := ry
    exact kia_one (kitx_exc T) I.kIn ex e (by intro z; cases z) fin
  · obtain rfl : w' = Value.ref C := ry
    exact kia_one (kitx_exc T) I.kIn ex e (by intro z; cases z) fin
  · obtain rfl : w' = Value.ref tp := ry
    obtain ⟨_, its, rv, o, e1, e2, ⟨nn, e3⟩, e4⟩ := I.hok tp _ ht
    obtain rfl := refs_vals cs rv
    obtain ⟨oc, od, oda, osl⟩ := o
    dsimp only at e2 e3 e4
    subst e2 e3 e4
    exact kia_tup (kitx_exc T) I.kIn ex e1 e (by intro z; cases z) fin
end Tn
namespace Tn
open PySem PySem.Calls
section
variable {prog : Program} {w : World} {A : Around} {E : Value → Shared → Prop} {s : Shared}
end
end Tn
namespace L2
open PySem PySem.Spec PyProof.Rows
section
variable {X : Cx}
theorem int_items : ∀ {ns : List Int} {its : List Value}, Vals (ns.map V.int) its → ∃ xs : List (Int × Tok), its = xs.map (fun p => Value.int p.1 p.2) ∧ xs.map (·.1) = ns
  | [], _, .nil => ⟨[], rfl, rfl⟩
  | n :: ns, _, .cons r t => by
    obtain ⟨xs, rfl, e⟩ := int_items t
    obtain ⟨tk, rfl⟩ := r
    exact ⟨(n, tk) :: xs, rfl, by rw [List.map_cons, e]⟩
theorem sum_ints {prog : Program} {w : World} {A : Around} {E : Value → Shared → Prop} {s : Shared} {l : Addr} {xs : Array (Int × Tok)} {Q : Value → Shared → Prop} (hh : A.handled = none) (hl : s.heap.IsList l (intItems xs))
    (h : ∀ h' tk t', (∀ b o, s.heap.get? b = some o → h'.get? b = some o) → Q (.int (preSum (numAt xs) xs.size) t') { s with heap := h', toks := tk }) : wpAny (model prog w) A (call (.builtin "sum") [.ref l]) Q E s := by
  refine call_sum_walkG (iter_intList hl fun s₂ e st hfp hlI => ?_)
  subst e
  refine ⟨_, _, _, _, _, _, numAt xs, rfl, Walks.list (A := A.in1) hh _ l hlI (intItems xs), st, hfp, (fun _ _ => intItems_at), fun h' tk t' hk => ?_⟩
  have := h h' tk t' (old_kept hk)
  simpa [intItems] using this
theorem call_sumL (hc : X.calm = true) : CallR X (.builtin "sum") (fun vs H Q => ∃ (p : Addr) (ns : List Int), vs = [.ref p] ∧ SqL X.K H p (ns.map V.int) ∧ Q (.int ns.sum) H) := by
  intro pins s σ H xs us Q I r h
  obtain ⟨p, ns, rfl, hp, q⟩ := h
  obtain ⟨u, rfl, rx⟩ := vals1 r
  cases rx
  obtain ⟨its, rv, pl, _⟩ := I.list hp
  obtain ⟨zs, rfl, hz⟩ := int_items rv
  have hl : s.heap.IsList p (intItems zs.toArray) := by
    have := pl.isList
    simpa [intItems] using this
  refine sum_ints (I.ok.hd hc) hl fun h' tk t' kp => ⟨.int ns.sum, H, I.kept kp, ⟨t', ?_⟩, q⟩
  have e : preSum (numAt zs.toArray) zs.toArray.size = ns.sum := by
    rw [preSum_eq, ← hz]
    simp only [List.size_toArray]
    rw [List.take_of_length_le (by simp)]
  rw [e]
def eqK (x y : V) : Option Bool := if flatV x && flatV y then some (eqV x y) else if x = y then (match x with | .ref _ => some true | _ => none) else none
theorem eqK_at {A : Around} {s : Shared} {x y : V} {u v : Value} {b : Bool} (h : eqK x y = some b) (rx : RelV x u) (ry : RelV y v) : SeqAt.EqAt A s u v b := by
  unfold eqK at h
  split at h
  · rename_i hf
    cases h
    have hf' : flatV x = true ∧ flatV y = true := by simpa using hf
    exact eqAt_V rx ry hf'.1 hf'.2
  · split at h
    · rename_i e
      subst e
      cases x with
      | ref a =>
        cases h
        obtain rfl : u = Value.ref a := rx
        obtain rfl : v = Value.ref a := ry
        exact SeqAt.EqAt.same _
      | _ => cases h
    · cases h
def eqKs : List V → List V → Option Bool
  | [], [] => some true
  | x :: xs, y :: ys => (eqK x y).bind fun b => (eqKs xs ys).map fun c => b && c
  | _, _ => none
theorem eqKs_get : ∀ {xs ys : List V} {b : Bool}, eqKs xs ys = some b → xs.length = ys.length ∧ ∃ e : Nat → Bool, (∀ j x y, xs[j]? = some x → ys[j]? = some y → eqK x y = some (e j)) ∧ (List.range xs.length).all e = b
  | [], [], b, h => by cases h; exact ⟨rfl, fun _ => true, (fun _ _ _ e => nomatch e), rfl⟩
  | x :: xs, y :: ys, b, h => by
    unfold eqKs at h
    obtain ⟨b1, h1, h⟩ := Option.bind_eq_some_iff.mp h
    obtain ⟨b2, h2, rfl⟩ := Option.map_eq_some_iff.mp h
    obtain ⟨hl, e, he, ha⟩ := eqKs_get h2
    refine ⟨by simp [hl], fun j => match j with | 0 => b1 | j + 1 => e j, fun j a c ea ec => ?_, ?_⟩
    · cases j with
      | zero => simp only [List.getElem?_cons_zero, Option.some.injEq] at ea ec; subst ea ec; exact h1
      | succ j => simp only [List.getElem?_cons_succ] at ea ec; exact he j a c ea ec
    · rw [List.length_cons, List.range_succ_eq_map, List.all_cons, List.all_map, ← ha]
      rfl
  | [], _ :: _, _, h => nomatch h
  | _ :: _, [], _, h => nomatch h
def rEqS (K : PySem.W.Frag) (neg : Bool) : R2 := fun x y H Q => ∃ a b xs ys, x = .ref a ∧ y = .ref b ∧ SqL K H a xs ∧ SqL K H b ys ∧ ((xs.length ≠ ys.length ∧ Q (.bl neg) H) ∨ ∃ e, eqKs xs ys = some e ∧ Q (.bl (if neg then !e else e)) H)
theorem items_eq {xs ys : List V} {its its2 : List Value} {A : Around} {s : Shared} {e : Nat → Bool} (r1 : Vals xs its) (r2 : Vals ys its2) (he : ∀ j x y, xs[j]? = some x → ys[j]? = some y → eqK x y = some (e j)) :
    ∀ j (h1 : j < its.toArray.size) (h2 : j < its2.toArray.size), SeqAt.EqAt A s its.toArray[j] its2.toArray[j] (e j) := fun j h1 h2 => by
  have l1 := r1.length
  have l2 := r2.length
  have h1' : j < xs.length := by rw [l1]; simpa using h1
  have h2' : j < ys.length := by rw [l2]; simpa using h2
  obtain ⟨v1, e1, rv1⟩ := r1.get (i := j) (x := xs[j]) (by simp [h1'])
  obtain ⟨v2, e2, rv2⟩ := r2.get (i := j) (x := ys[j]) (by simp [h2'])
  have i1 : its.toArray[j] = v1 := by
    have := (List.getElem?_eq_some_iff.mp e1).2
    simpa using this
  have i2 : its2.toArray[j] = v2 := by
    have := (List.getElem?_eq_some_iff.mp e2).2
    simpa using this
  rw [i1, i2]
  exact eqK_at (he j xs[j] ys[j] (by simp [h1']) (by simp [h2'])) rv1 rv2
theorem op_eqL (hu : X.A.units < cLine) : OpR X (compareOp .Eq) (rEqS X.K false) := by
  intro pins s σ H x y v u Q I rx ry h
  obtain ⟨a, b, xs, ys, rfl, rfl, ha, hb, h⟩ := h
  cases rx
  cases ry
  obtain ⟨its, r1, p1, _⟩ := I.list ha
  obtain ⟨its2, r2, p2, _⟩ := I.list hb
  have l1 := r1.length
  have l2 := r2.length
  rcases h with ⟨hl, q⟩ | ⟨k, hk, q⟩
  · exact SeqAt.eq_list_lengthsAt p1.isList p2.isList (by simp only [List.size_toArray, bne_iff_ne]; omega) hu ⟨.bl false, H, I, rfl, q⟩
  · obtain ⟨hl, e, he, hall⟩ := eqKs_get hk
    refine SeqAt.eq_listAt (e := e) p1.isList p2.isList (by simp only [List.size_toArray]; omega) hu (items_eq r1 r2 he) ⟨.bl k, H, I, ?_, q⟩
    show Value.bool _ = Value.bool k
    rw [← hall, List.size_toArray, ← l1]
theorem op_neL (hu : X.A.units < cLine) : OpR X (compareOp .NotEq) (rEqS X.K true) := by
  intro pins s σ H x y v u Q I rx ry h
  obtain ⟨a, b, xs, ys, rfl, rfl, ha, hb, h⟩ := h
  cases rx
  cases ry
  obtain ⟨its, r1, p1, _⟩ := I.list ha
  obtain ⟨its2, r2, p2, _⟩ := I.list hb
  have l1 := r1.length
  have l2 := r2.length
  rcases h with ⟨hl, q⟩ | ⟨k, hk, q⟩
  · exact SeqAt.RcNeAt.lists_lengths p1.isList p2.isList (by simp only [List.size_toArray, bne_iff_ne]; omega) hu X.prog X.w X.xe _ ⟨.bl true, H, I, rfl, q⟩
  · obtain ⟨hl, e, he, hall⟩ := eqKs_get hk
    refine SeqAt.RcNeAt.lists (e := e) p1.isList p2.isList (by simp only [List.size_toArray]; omega) hu (items_eq r1 r2 he) X.prog X.w X.xe _ ⟨.bl (!k), H, I, ?_, q⟩
    show Value.bool _ = Value.bool (!k)
    rw [← hall, List.size_toArray, ← l1]
end
theorem comp_inv {J : It} {n : Nat} {te : TE} {js : List Nat} {σ : St} {H1 : Hp} {Q : VK} {D : Addr} (P : Nat → List V → Hp → Prop) (h0 : P 0 [] (upd H1 D (.lst []))) (hD : ∀ i acc H', P i acc H' → H' D = some (.lst acc) ∧ acc.length = i) (hn : n ≤ sizeLine)
    (hgo : ∀ i acc H', i < n → P i acc H' → J.go i H') (hst : ∀ acc H', P n acc H' → J.stop n H' ∧ Q (.ref D) H')
    (hstep : ∀ i acc H' y H2 (R : VK), i < n → P i acc H' → J.yld i H' y H2 → (∀ z H5, H5 D = some (.lst acc) → P (i + 1) (acc ++ [z]) (upd H5 D (.lst (acc ++ [z]))) → R z H5) → te (some y :: js.map fun j => (σ[j]?).getD none) H2 R) :
    CompW J (gName 0) tYes te js σ H1 Q D := by
  refine ⟨fun i m acc σ' H' => m = n - i ∧ i ≤ n ∧ P i acc H' ∧ ∃ v, σ' = v :: js.map fun j => (σ[j]?).getD none, ⟨n, by simp, Nat.zero_le _, h0, none, rfl⟩, ?_⟩
  rintro i m acc σ' H' ⟨rfl, hi, hP, v, rfl⟩
  refine ⟨(hD i acc H' hP).1, ?_⟩
  by_cases hlt : i < n
  · refine .inr ⟨hgo i acc H' hlt hP, by rw [(hD i acc H' hP).2]; omega, fun y H2 hy => ?_⟩
    show te (some y :: js.map fun j => (σ[j]?).getD none) _ _
    exact hstep i acc H' y H2 _ hlt hP hy fun z H5 e1 e2 => ⟨e1, n - (i + 1), by omega, rfl, hlt, e2, _, rfl⟩
  · have e : i = n := by omega
    subst e
    exact .inl (hst acc H' hP)
end L2
namespace L2
open PySem PySem.Spec PyProof.Rows
section
variable {X : Cx}
end
end L2
namespace L2
open PySem
def csB (S scope : Scope) (x : Str) (N P : List Str) (js : List Nat) : Bool :=
  (scope.kind == .function) && scope.names.all (fun y => !(y.2 == .cell)) && scope.names.all (fun y => !(y.2 == .local) || scope.names.lookup y.1 == some .local) &&
  scope.names.all (fun y => !(y.2 == .free) || (S.names.lookup y.1 == some .cell || S.names.lookup y.1 == some .free)) && (scope.names.lookup x == some .local) && decide N.Nodup && (N == x :: (js.map fun j => (P[j]?).getD x)) &&
  js.all (fun j => match P[j]? with | some y => scope.names.lookup y == some .free | none => false)
theorem cs_of {S scope : Scope} {x : Str} {N P : List Str} {js : List Nat} (h : csB S scope x N P js = true) : CScope S scope x N P js := by
  unfold csB at h
  simp only [Bool.and_eq_true, List.all_eq_true, beq_iff_eq, decide_eq_true_eq, Bool.or_eq_true, Bool.not_eq_true'] at h
  obtain ⟨⟨⟨⟨⟨⟨⟨h1, h2⟩, h3⟩, h4⟩, h5⟩, h6⟩, h7⟩, h8⟩ := h
  refine ⟨h1, fun y hy e => ?_, fun y hy e => ?_, fun y hy e => ?_, h5, h6, h7, fun j hj => ?_⟩
  · have := h2 y hy; rw [e] at this; exact absurd this (by decide)
  · rcases h3 y hy with z | z
    · rw [e] at z; exact absurd z (by decide)
    · exact z
  · rcases h4 y hy with z | z
    · rw [e] at z; exact absurd z (by decide)
    · exact z
  · have := h8 j hj
    split at this
    · rename_i y ey
      exact ⟨y, ey, by simpa using this⟩
    · cases this
end L2
namespace L2
open PySem PySem.Spec PyProof.Rows
def isStar : Expr → Bool
  | .Starred _ _ => true
  | _ => false
theorem star_cons {e : Expr} {es : List Expr} {env : Env} (h : isStar e = false) : starEach (e :: es) env = (false, eval e env) :: starEach es env := by
  rw [starEach]
  intro e' p z
  rw [z] at h
  cases h
theorem pa_c {X : Cx} {e : Expr} {es : List Expr} {te : TE} {t : TA} (ha : PE X e te) (hr : PA X es t) (hn : isStar e = false := by rfl) : PA X (e :: es) (tCons te t) := pa_cons ha hr (star_cons hn)
end L2
namespace L2
open PySem
end L2
namespace Tn
open PySem L2
def lens (xss : List (List Int)) : List Int := xss.map fun x => (x.length : Int)
def before (xss : List (List Int)) (w : Nat) : Int := ((lens xss).take w).sum
def togF (ord : List Int) (xss : List (List Int)) : List Int := ord.flatMap fun w => (xss.getD w.toNat []).map fun z => before xss w.toNat + z
def Tups (H : Hp) (ps : List Addr) (xss : List (List Int)) : Prop := Paired (fun p xs => H p = some (.tup (xs.map V.int))) ps xss
theorem refs_get {ps : List Addr} {i : Nat} {y : V} (h : (ps.map V.ref)[i]? = some y) : ∃ p, ps[i]? = some p ∧ y = V.ref p := by
  rw [List.getElem?_map] at h
  obtain ⟨p, h1, h2⟩ := Option.map_eq_some_iff.mp h
  exact ⟨p, h1, h2.symm⟩
def spFirsts (K : PySem.W.Frag) : Sp := fun vs H Q _ => ∃ (l : Addr) (ps : List Addr) (xss : List (List Int)), vs = [.ref l] ∧ SqL K H l (ps.map V.ref) ∧ ps.length ≤ 1000 ∧ Tups H ps xss ∧
  ∀ (f : Addr) (H' : Hp), H f = none → H' f = some (.lst (((List.range xss.length).map fun i => before xss i).map V.int)) → Same H H' → Q (.ref f) H'
def spPut (K : PySem.W.Frag) (C : Addr) : Sp := fun vs H Q E => ∃ (o l : Addr) (ord : List Int) (ps : List Addr) (xss : List (List Int)), vs = [.ref o, .ref l] ∧ SqT K H o (ord.map V.int) ∧ ord.length ≤ 1000 ∧ (∀ w ∈ ord, 0 ≤ w ∧ w < ord.length) ∧
  SqL K H l (ps.map V.ref) ∧ ps.length ≤ 1000 ∧ Tups H ps xss ∧ (∀ x ∈ xss, x.length ≤ 1000) ∧
  (xss.length = ord.length → (lens xss).sum ≤ 60 → ∀ (t : Addr) (H' : Hp), H t = none → H' t = some (.tup ((togF ord xss).map V.int)) → Same H H' → Q (.ref t) H') ∧
  (¬ (xss.length = ord.length ∧ (lens xss).sum ≤ 60) → ∀ H', Same H H' → E (.ref C) none H')
theorem pass0V {P : Program} {w : World} {X : Cx} : Passes (CXV P w) X E0 := fun _ _ _ _ _ _ _ ⟨_, _, _, _, _, _, _, _, _, _, _, _, _, h⟩ => h.elim
end Tn
namespace Tn
open PySem L2
theorem boot_sum : bootBuiltins "sum" = some (.builtin "sum") := by decide +kernel
def rLen (K : PySem.W.Frag) : List V → Hp → VK → Prop := fun xs H Q => ∃ p ys, xs = [.ref p] ∧ (SqL K H p ys ∨ SqT K H p ys) ∧ Q (.int ys.length) H
end Tn
namespace Tn
open PySem L2
theorem line_mil {n : Nat} (h : n ≤ 10000000) : n ≤ sizeLine := by rw [sizeLine_eq]; omega
end Tn
namespace Tn
open PySem L2
def spSizes (K : PySem.W.Frag) : Sp := fun vs H Q _ => ∃ (a : Addr) (ns : List Int) (m : Nat), vs = [.ref a, .int (m : Int)] ∧ SqL K H a (ns.map V.int) ∧ ns.length ≤ 63 ∧ 1 ≤ m ∧ m ≤ 60 ∧
  ∀ (l : Addr) (sz : List Int) (H' : Hp), H l = none → H' l = some (.lst (sz.map V.int)) → Same H H' → sz.length = m → (∀ z ∈ sz, 1 ≤ z) → sz.sum ≤ 60 → Q (.ref l) H'
theorem ixN_nat {n : Nat} {k : Int} (h0 : 0 ≤ k) (h1 : k < n) : ixN n k = some k.toNat := by
  unfold ixN
  rw [if_pos h0, if_pos h1]
end Tn
namespace Tn
open PySem L2
def spDue (K : PySem.W.Frag) : Sp := fun vs H Q _ => ∃ (o l : Addr) (ord : List Int) (ps : List Addr) (xss : List (List Int)), vs = [.ref o, .ref l] ∧ SqT K H o (ord.map V.int) ∧ ord.length ≤ 1000 ∧ (∀ w ∈ ord, 0 ≤ w ∧ w < ord.length) ∧
  SqL K H l (ps.map V.ref) ∧ Tups H ps xss ∧ xss.length = ord.length ∧ (∀ x ∈ xss, x.length ≤ 1000) ∧ ∀ (f : Addr) (H' : Hp), H f = none → H' f = some (.lst ((togF ord xss).map V.int)) → Same H H' → Q (.ref f) H'
def spRefPut (K : PySem.W.Frag) : Sp := fun vs H Q _ => ∃ (o l : Addr) (ord : List Int) (ps : List Addr) (xss : List (List Int)), vs = [.ref o, .ref l] ∧ SqT K H o (ord.map V.int) ∧ ord.length ≤ 1000 ∧ (∀ w ∈ ord, 0 ≤ w ∧ w < ord.length) ∧
  SqL K H l (ps.map V.ref) ∧ ps.length ≤ 1000 ∧ Tups H ps xss ∧ (∀ x ∈ xss, x.length ≤ 1000) ∧ ¬ (xss.length = ord.length ∧ (lens xss).sum ≤ 60) ∧ ∀ H', Same H H' → Q (.bl true) H'
structure Excs (K : PySem.W.Frag) (T C o1 o2 o3 o4 r1 r2 r3 : Addr) : Prop where
  xC : PySem.W.excIn K C bmVE "ValueError.__new__" = true
  tx : ExcTxt K C
  ct : CatTxt K T
  mr : PySem.W.mroIn K C (.ref T) = some true
  ve : PySem.W.kitOne K (.ref C) (.type "ValueError") = some true
  a4 : PySem.W.kitAny K (.ref C) [.ref o1, .ref o2, .ref o3, .ref o4] = some false
  a3 : PySem.W.kitAny K (.ref C) [.ref r1, .ref r2, .ref r3] = some false
theorem kit_refl (K : PySem.W.Frag) (C : Addr) : PySem.W.kitOne K (.ref C) (.ref C) = some true := by
  unfold PySem.W.kitOne
  rw [if_pos (by simp)]
theorem boot_ve : bootBuiltins "ValueError" = some (.type "ValueError") := by decide +kernel
end Tn
namespace Tn
open PySem L2
theorem cut_head {α : Type} (f : α → V) (ps : List α) (k : Nat) (h : k ≤ ps.length) : cutV (ps.map f) none (some (k : Int)) = (ps.take k).map f := by
  unfold cutV
  rw [HT.sIx_none, HT.sIx_nat, List.drop_zero, List.length_map, Nat.min_eq_left h, Nat.sub_zero, List.map_take]
theorem cut_tail {α : Type} (f : α → V) (ps : List α) (k : Nat) (h : k ≤ ps.length) : cutV (ps.map f) (some (k : Int)) none = (ps.drop k).map f := by
  unfold cutV
  rw [HT.sIx_none, HT.sIx_nat, List.length_map, Nat.min_eq_left h, List.take_of_length_le (by rw [List.length_drop, List.length_map]; exact Nat.le_refl _), List.map_drop]
theorem gname_go {i : Nat} {v : V} {σ : L2.St} {H : Hp} {Q : L2.St → Hp → Prop} (h : Q (σ.set i (some v)) H) : gName i v σ H Q := h
theorem seq_if {c : TT} {t u r : TS} {D : Ends} {σ : L2.St} {H : Hp} (C : L2.St → Hp → Prop) (hrest : ∀ σ' Hx, C σ' Hx → r D σ' Hx) (hmain : (∀ σ' Hx, C σ' Hx → r D σ' Hx) → tIfS c t u { D with nx := r D } σ H) : tSeq (tIfS c t u) r D σ H := hmain hrest
end Tn
namespace Tn
open PySem L2
end Tn
namespace Tn
open PySem PySem.Spec PyProof.Rows
end Tn
namespace L2
open PySem PySem.Spec PyProof.Rows
def IteL (K : PySem.W.Frag) (a : Addr) : It :=
  ⟨fun i H => ∃ xs x, SqL K H a xs ∧ xs[i]? = some x, fun i H x H' => ∃ p y, H p = none ∧ x = .ref p ∧ (∀ xs, SqL K H a xs → xs[i]? = some y) ∧ H' = upd H p (.tup [.int i, y]), fun i H => ∃ xs, SqL K H a xs ∧ xs.length = i⟩
section
variable {X : Cx}
def iEnumL (K : PySem.W.Frag) (ta : TA) : TI := fun σ H R => ta σ H fun vs H1 => ∃ a, vs = [.ref a] ∧ (∃ xs, SqL K H1 a xs) ∧ R (IteL K a) H1
end
end L2
namespace L2
open PySem PySem.Spec PyProof.Rows
section
variable {X : Cx}
end
end L2
namespace Tn
open PySem L2
def NotW (K : PySem.W.Frag) (H : Hp) (x : V) : Prop := ∃ t, TyOf K H x t ∧ (PySem.W.kitOne K t (.type "int") = some false ∨ (PySem.W.kitOne K t (.type "int") = some true ∧ PySem.W.kitOne K t (.type "bool") = some true))
def Plain (K : PySem.W.Frag) (H : Hp) (x : V) : Prop := (∃ i, x = .int i) ∨ (NotW K H x ∧ ∀ i, x ≠ .int i)
theorem Same.ty {K : PySem.W.Frag} {H H' : Hp} (s : Same H H') {x : V} {t : Value} (h : TyOf K H x t) : TyOf K H' x t := by
  cases h with
  | non => exact .non
  | bl x => exact .bl x
  | int i => exact .int i
  | str x => exact .str x
  | flt x => exact .flt x
  | lst e => exact .lst (s _ _ e)
  | frz e => exact .frz (s _ _ e)
  | tup e => exact .tup (s _ _ e)
  | dK e => exact .dK (s _ _ e)
  | dT e => exact .dT (s _ _ e)
  | ins e c a b d f => exact .ins (s _ _ e) c a b d f
def spWhole (K : PySem.W.Frag) : Sp := fun vs H Q _ => ∃ x, vs = [x] ∧ (((∃ i, x = .int i) ∧ Q (.bl true) H) ∨ (NotW K H x ∧ Q (.bl false) H))
def diffG (b : Int) : List Int → List V → Bool
  | _, [] => true
  | met, .int i :: r => if 0 ≤ i ∧ i < b ∧ i ∉ met then diffG b (met ++ [i]) r else false
  | _, _ :: _ => false
def spDiff (K : PySem.W.Frag) : Sp := fun vs H Q _ => ∃ (l : Addr) (xs : List V) (b : Int), vs = [.ref l, .int b] ∧ SqL K H l xs ∧ xs.length ≤ 1000 ∧ (∀ x ∈ xs, Plain K H x) ∧ ∀ H', Same H H' → Q (.bl (diffG b [] xs)) H'
def rank (ws : List Int) (w : Int) : Nat := (ws.filter fun v => decide (v < w)).length
def leftF (ord ws : List Int) : List Int := (ord.filter fun w => decide (w ∈ ws)).map fun w => (rank ws w : Int)
def spLeft (K : PySem.W.Frag) (C : Addr) : Sp := fun vs H Q E => ∃ (o l : Addr) (ord : List Int) (xs : List V), vs = [.ref o, .ref l] ∧ SqT K H o (ord.map V.int) ∧ ord.length ≤ 1000 ∧ SqL K H l xs ∧ xs.length ≤ 1000 ∧ (∀ x ∈ xs, Plain K H x) ∧
  (∀ ws : List Int, xs = ws.map V.int → ws ≠ [] → ws.length < 64 → ws.Nodup → (∀ w ∈ ws, 0 ≤ w ∧ w < ord.length) → ∀ (t : Addr) (H' : Hp), H t = none → H' t = some (.tup ((leftF ord ws).map V.int)) → Same H H' → Q (.ref t) H') ∧
  (xs = [] ∨ (diffG ord.length [] xs = true → xs.length < 64)) ∧ (xs = [] ∨ diffG ord.length [] xs = false → ∀ H', Same H H' → E (.ref C) none H')
def spRefLeft (K : PySem.W.Frag) : Sp := fun vs H Q _ => ∃ (o l : Addr) (ord : List Int) (xs : List V), vs = [.ref o, .ref l] ∧ SqT K H o (ord.map V.int) ∧ ord.length ≤ 1000 ∧ SqL K H l xs ∧ xs.length ≤ 1000 ∧ (∀ x ∈ xs, Plain K H x) ∧
  (xs = [] ∨ diffG ord.length [] xs = false) ∧ ∀ H', Same H H' → Q (.bl true) H'
end Tn
namespace Tn
open PySem L2
def spSome (K : PySem.W.Frag) : Sp := fun vs H Q _ => ∃ (a o : Addr) (ns ord : List Int), vs = [.ref a, .ref o] ∧ SqL K H a (ns.map V.int) ∧ ns.length ≤ 63 ∧ SqT K H o (ord.map V.int) ∧ 1 ≤ ord.length ∧ ord.length ≤ 60 ∧
  ∀ (l : Addr) (ws : List Int) (H' : Hp), H l = none → H' l = some (.lst (ws.map V.int)) → Same H H' → ws.Nodup → (∀ w ∈ ws, 0 ≤ w ∧ w < ord.length) → 1 ≤ ws.length → ws.length ≤ ord.length → Q (.ref l) H'
def spLess (K : PySem.W.Frag) : Sp := fun vs H Q _ => ∃ (l : Addr) (ws : List Int) (z : Int), vs = [.ref l, .int z] ∧ SqL K H l (ws.map V.int) ∧ ws.length ≤ 1000 ∧ ∀ H', Same H H' → Q (.int (rank ws z : Nat)) H'
def BadV (m : Int) (ws : List Int) (v : V) : Prop := (∀ i, v ≠ .int i) ∨ ∃ i, v = .int i ∧ (i ∈ ws ∨ ¬ (0 ≤ i ∧ i < m))
def spSpoilt (K : PySem.W.Frag) : Sp := fun vs H Q _ => ∃ (l : Addr) (ws : List Int) (m c : Int), vs = [.ref l, .int m, .int c] ∧ SqL K H l (ws.map V.int) ∧ 1 ≤ ws.length ∧ ws.length ≤ 60 ∧ 0 ≤ m ∧
  ∀ (x : Addr) (xs : List V) (H' : Hp), H' x = some (.lst xs) → Same H H' → xs.length ≤ 100 → (∀ y ∈ xs, Plain K H' y) → diffG m [] xs = false → Q (.ref x) H'
theorem at_lt {xs : List V} {i : Int} (h0 : 0 ≤ i) (h1 : i < xs.length) : ∃ v, v ∈ xs ∧ atI xs i = some v := by
  have hn : i.toNat < xs.length := by omega
  refine ⟨xs[i.toNat], List.getElem_mem hn, ?_⟩
  have := atI_nat (xs := xs) (j := i.toNat) (v := xs[i.toNat]) (by simp [hn])
  rw [show ((i.toNat : Nat) : Int) = i by omega] at this
  exact this
end Tn
namespace Tn
open PySem L2
def Good (xs : List V) : Prop := 1 ≤ xs.length ∧ xs.length ≤ 60 ∧ diffG xs.length [] xs = true
def spMake (K : PySem.W.Frag) (C : Addr) : Sp := fun vs H Q E => ∃ (l : Addr) (xs : List V), vs = [.ref l] ∧ SqL K H l xs ∧ xs.length ≤ 1000 ∧ (∀ x ∈ xs, Plain K H x) ∧
  (Good xs → ∀ (t : Addr) (H' : Hp), H t = none → H' t = some (.tup xs) → Same H H' → Q (.ref t) H') ∧ (¬ Good xs → ∀ H', Same H H' → E (.ref C) none H')
def spRefMake (K : PySem.W.Frag) : Sp := fun vs H Q _ => ∃ (l : Addr) (xs : List V), vs = [.ref l] ∧ SqL K H l xs ∧ xs.length ≤ 1000 ∧ (∀ x ∈ xs, Plain K H x) ∧ ¬ Good xs ∧ ∀ H', Same H H' → Q (.bl true) H'
def spMade (K : PySem.W.Frag) : Sp := fun vs H Q _ => ∃ (l : Addr) (ws : List Int), vs = [.ref l] ∧ SqL K H l (ws.map V.int) ∧ IsOrd ws ∧ 1 ≤ ws.length ∧ ws.length ≤ 60 ∧ ∀ H', Same H H' → Q (.bl true) H'
def spSmall : Sp := fun vs H Q _ => ∃ c : Int, vs = [.int c] ∧ ∀ (l : Addr) (ws : List Int) (H' : Hp), H l = none → H' l = some (.lst (ws.map V.int)) → Same H H' → 1 ≤ ws.length → ws.length ≤ 4 → Q (.ref l) H'
def spSpoilt1 (K : PySem.W.Frag) : Sp := fun vs H Q _ => ∃ (l : Addr) (ws : List Int) (c : Int), vs = [.ref l, .int c] ∧ SqL K H l (ws.map V.int) ∧ IsOrd ws ∧ 1 ≤ ws.length ∧ ws.length ≤ 60 ∧
  ∀ (x : Addr) (xs : List V) (H' : Hp), H' x = some (.lst xs) → Same H H' → xs.length ≤ 100 → (∀ y ∈ xs, Plain K H' y) → ¬ Good xs → Q (.ref x) H'
theorem boot_ty_str : bootBuiltins "str" = some (.type "str") := by decide +kernel
end Tn
namespace L2
open PySem PySem.Spec PyProof.Rows
section
variable {X : Cx} {e : Expr} {te : TE} {st : Expr} {ts : TE} {pos p2 : Pos}
def tRevL (K : PySem.W.Frag) (te ts : TE) : TE := fun σ H Q => te σ H fun x H1 => ts σ H1 fun k H2 => k = .int (-1) ∧ ∃ a xs, x = .ref a ∧ SqL K H2 a xs ∧ ∀ p, H2 p = none → Q (.ref p) (upd H2 p (.lst xs.reverse))
end
end L2
namespace Tn
open PySem L2
def blkWords (b : Int) (n : Nat) : List Int := (List.range n).map fun (i : Nat) => b + i
def backs (ord : List Int) (xss : List (List Int)) : List (List Int) := ord.map fun w => backF (xss.getD w.toNat [])
end Tn
namespace L2
open PySem PySem.Spec PyProof.Rows
section
variable {X : Cx} {pos : Pos}
def gTupL (K : PySem.W.Frag) (n : Nat) (t : TGs) : TG := fun v σ H Q => ∃ a xs, v = .ref a ∧ SqL K H a xs ∧ xs.length = n ∧ t xs σ H Q
end
end L2
namespace Tn
open PySem L2
inductive Nest where
  | word
  | knot (k : Bool) (ps : List Nest)
  | bad
def kS (k : Bool) : Str := if k then "+" else "-"
def aS : Option Bool → Str
  | none => ""
  | some k => kS k
def Typed (K : PySem.W.Frag) (H : Hp) (y : V) : Prop := ∃ t b, TyOf K H y t ∧ PySem.W.kitOne K t (.type "tuple") = some b
inductive NoKnot (K : PySem.W.Frag) (H : Hp) : V → Prop where
  | ty {v : V} {t : Value} : TyOf K H v t → PySem.W.kitOne K t (.type "tuple") = some false → NoKnot K H v
  | len {a : Addr} {xs : List V} : H a = some (.tup xs) → xs.length ≠ 2 → NoKnot K H (.ref a)
  | notStr {a : Addr} {x y : V} {t : Value} : H a = some (.tup [x, y]) → TyOf K H x t → PySem.W.kitOne K t (.type "str") = some false → Typed K H y → NoKnot K H (.ref a)
  | kind {a : Addr} {z : Str} {y : V} : H a = some (.tup [.str z, y]) → z ≠ "+" → z ≠ "-" → Typed K H y → NoKnot K H (.ref a)
  | notTup {a : Addr} {k : Bool} {y : V} {t : Value} : H a = some (.tup [.str (kS k), y]) → TyOf K H y t → PySem.W.kitOne K t (.type "tuple") = some false → NoKnot K H (.ref a)
  | few {a b : Addr} {k : Bool} {xs : List V} : H a = some (.tup [.str (kS k), .ref b]) → H b = some (.tup xs) → xs.length < 2 → NoKnot K H (.ref a)
mutual
def NestAt (K : PySem.W.Frag) (H : Hp) : Nest → V → Prop
  | .word, v => v = .non
  | .knot k ps, v => ∃ a b vs, v = .ref a ∧ H a = some (.tup [.str (kS k), .ref b]) ∧ H b = some (.tup vs) ∧ 2 ≤ vs.length ∧ vs.length ≤ 1000 ∧ NestsAt K H ps vs
  | .bad, v => v ≠ .non ∧ NoKnot K H v
def NestsAt (K : PySem.W.Frag) (H : Hp) : List Nest → List V → Prop
  | [], vs => vs = []
  | n :: r, vs => ∃ v vr, vs = v :: vr ∧ NestAt K H n v ∧ NestsAt K H r vr
end
mutual
def words : Nest → Nat
  | .word => 1
  | .knot _ ps => wordsL ps
  | .bad => 1
def wordsL : List Nest → Nat
  | [] => 0
  | n :: r => words n + wordsL r
end
mutual
def valid : Option Bool → Nest → Bool
  | _, .word => true
  | o, .knot k ps => (!decide (o = some k)) && validL k ps
  | _, .bad => false
def validL : Bool → List Nest → Bool
  | _, [] => true
  | k, n :: r => valid (some k) n && validL k r
end
mutual
def depthN : Nest → Nat
  | .word => 0
  | .knot _ ps => 1 + depthL ps
  | .bad => 0
def depthL : List Nest → Nat
  | [] => 0
  | n :: r => Nat.max (depthN n) (depthL r)
end
mutual
def sizeN : Nest → Nat
  | .word => 1
  | .knot _ ps => 1 + sizeL ps
  | .bad => 1
def sizeL : List Nest → Nat
  | [] => 0
  | n :: r => sizeN n + sizeL r
end
theorem NoKnot.mono {K : PySem.W.Frag} {H H' : Hp} (s : Same H H') {v : V} (h : NoKnot K H v) : NoKnot K H' v := by
  cases h with
  | ty t k => exact .ty (Same.ty s t) k
  | len e k => exact .len (s _ _ e) k
  | notStr e t k y => exact .notStr (s _ _ e) (Same.ty s t) k (let ⟨t', b, t2, kk⟩ := y; ⟨t', b, Same.ty s t2, kk⟩)
  | kind e a b y => exact .kind (s _ _ e) a b (let ⟨t', b', t2, kk⟩ := y; ⟨t', b', Same.ty s t2, kk⟩)
  | notTup e t k => exact .notTup (s _ _ e) (Same.ty s t) k
  | few e1 e2 k => exact .few (s _ _ e1) (s _ _ e2) k
mutual
theorem NestAt.mono {K : PySem.W.Frag} {H H' : Hp} (s : Same H H') : ∀ {n : Nest} {v : V}, NestAt K H n v → NestAt K H' n v
  | .word, _, h => h
  | .knot _ _, _, ⟨a, b, vs, e, h1, h2, h3, h4, h5⟩ => ⟨a, b, vs, e, s _ _ h1, s _ _ h2, h3, h4, NestsAt.mono s h5⟩
  | .bad, _, ⟨h1, h2⟩ => ⟨h1, h2.mono s⟩
theorem NestsAt.mono {K : PySem.W.Frag} {H H' : Hp} (s : Same H H') : ∀ {ns : List Nest} {vs : List V}, NestsAt K H ns vs → NestsAt K H' ns vs
  | [], _, h => h
  | _ :: _, _, ⟨v, vr, e, h1, h2⟩ => ⟨v, vr, e, NestAt.mono s h1, NestsAt.mono s h2⟩
end
theorem NestsAt.len {K : PySem.W.Frag} {H : Hp} : ∀ {ns : List Nest} {vs : List V}, NestsAt K H ns vs → ns.length = vs.length
  | [], _, h => by have h : _ = [] := h; subst h; rfl
  | _ :: _, _, ⟨v, vr, e, _, h2⟩ => by subst e; simp [NestsAt.len h2]
theorem NestsAt.app {K : PySem.W.Frag} {H : Hp} : ∀ {ns ms : List Nest} {vs us : List V}, NestsAt K H ns vs → NestsAt K H ms us → NestsAt K H (ns ++ ms) (vs ++ us)
  | [], _, _, _, h, h' => by have h : _ = [] := h; subst h; exact h'
  | _ :: _, _, _, _, ⟨v, vr, e, h1, h2⟩, h' => by subst e; exact ⟨v, _, rfl, h1, NestsAt.app h2 h'⟩
theorem NestsAt.one {K : PySem.W.Frag} {H : Hp} {n : Nest} {v : V} (h : NestAt K H n v) : NestsAt K H [n] [v] := ⟨v, [], rfl, h, rfl⟩
theorem NestsAt.rep {K : PySem.W.Frag} {H : Hp} : ∀ k : Nat, NestsAt K H (List.replicate k .word) (List.replicate k .non)
  | 0 => rfl
  | k + 1 => ⟨.non, _, rfl, rfl, NestsAt.rep k⟩
theorem NestsAt.get {K : PySem.W.Frag} {H : Hp} : ∀ {ns : List Nest} {vs : List V} {i : Nat} {v : V}, NestsAt K H ns vs → vs[i]? = some v → ∃ n, ns[i]? = some n ∧ NestAt K H n v
  | [], _, _, _, h, e => by have h : _ = [] := h; subst h; cases e
  | n :: _, _, 0, _, ⟨v, vr, e0, h1, _⟩, e => by subst e0; cases e; exact ⟨n, rfl, h1⟩
  | _ :: _, _, i + 1, _, ⟨v, vr, e0, _, h2⟩, e => by subst e0; exact NestsAt.get (i := i) h2 (by simpa using e)
theorem wordsL_app : ∀ (a b : List Nest), wordsL (a ++ b) = wordsL a + wordsL b
  | [], b => by simp [wordsL]
  | n :: a, b => by simp only [List.cons_append, wordsL, wordsL_app a b]; omega
theorem validL_app (k : Bool) : ∀ (a b : List Nest), validL k (a ++ b) = (validL k a && validL k b)
  | [], b => by simp [validL]
  | n :: a, b => by simp only [List.cons_append, validL, validL_app k a b, Bool.and_assoc]
theorem wordsL_rep : ∀ k : Nat, wordsL (List.replicate k .word) = k
  | 0 => rfl
  | k + 1 => by rw [List.replicate_succ]; simp only [wordsL, words, wordsL_rep k]; omega
mutual
theorem words_pos {K : PySem.W.Frag} {H : Hp} : ∀ {n : Nest} {v : V}, NestAt K H n v → 1 ≤ words n
  | .word, _, _ => by simp [words]
  | .knot _ ps, _, ⟨_, _, vs, _, _, _, h3, _, h5⟩ => by
    have h6 := wordsL_pos h5
    have h7 := NestsAt.len h5
    simp only [words]
    omega
  | .bad, _, _ => by simp [words]
theorem wordsL_pos {K : PySem.W.Frag} {H : Hp} : ∀ {ns : List Nest} {vs : List V}, NestsAt K H ns vs → ns.length ≤ wordsL ns
  | [], _, _ => by simp [wordsL]
  | _ :: _, _, ⟨_, _, _, h1, h2⟩ => by
    have h3 := words_pos h1
    have h4 := wordsL_pos h2
    simp only [wordsL, List.length_cons]
    omega
end
mutual
theorem size_pos : ∀ (n : Nest), 1 ≤ sizeN n
  | .word => by simp [sizeN]
  | .knot _ _ => by simp [sizeN]
  | .bad => by simp [sizeN]
end
theorem NoKnot.updL {K : PySem.W.Frag} {H : Hp} {p : Addr} {us vs : List V} (e : H p = some (.lst us)) {v : V} (h : NoKnot K H v) : NoKnot K (upd H p (.lst vs)) v := by
  have tup : ∀ {a : Addr} {xs : List V}, H a = some (.tup xs) → (upd H p (.lst vs)) a = some (.tup xs) := fun {a xs} h => by
    rw [upd_ne (ne_of h e (by intro z; cases z))]
    exact h
  have go : ∀ {x : V} {t : Value}, TyOf K H x t → TyOf K (upd H p (.lst vs)) x t := fun {x t} h => by
    have keep : ∀ {a : Addr} {o : HO}, (∀ ys, o ≠ .lst ys) → H a = some o → (upd H p (.lst vs)) a = some o := fun {a o} n h => by
      rw [upd_ne (ne_of h e (n _))]
      exact h
    cases h with
    | non => exact .non
    | bl x => exact .bl x
    | int i => exact .int i
    | str x => exact .str x
    | flt x => exact .flt x
    | @lst a ys h =>
      by_cases hap : a = p
      · subst hap
        exact .lst upd_same
      · exact .lst (by rw [upd_ne hap]; exact h)
    | frz h => exact .frz (keep (fun _ z => nomatch z) h)
    | tup h => exact .tup (keep (fun _ z => nomatch z) h)
    | dK h => exact .dK (keep (fun _ z => nomatch z) h)
    | dT h => exact .dT (keep (fun _ z => nomatch z) h)
    | ins h c a b d f => exact .ins (keep (fun _ z => nomatch z) h) c a b d f
  cases h with
  | ty t k => exact .ty (go t) k
  | len h k => exact .len (tup h) k
  | notStr h t k y => exact .notStr (tup h) (go t) k (let ⟨t', b, t2, kk⟩ := y; ⟨t', b, go t2, kk⟩)
  | kind h a b y => exact .kind (tup h) a b (let ⟨t', b', t2, kk⟩ := y; ⟨t', b', go t2, kk⟩)
  | notTup h t k => exact .notTup (tup h) (go t) k
  | few h1 h2 k => exact .few (tup h1) (tup h2) k
mutual
theorem NestAt.updL {K : PySem.W.Frag} {H : Hp} {p : Addr} {us vs : List V} (e : H p = some (.lst us)) : ∀ {n : Nest} {v : V}, NestAt K H n v → NestAt K (upd H p (.lst vs)) n v
  | .word, _, h => h
  | .knot _ _, _, ⟨a, b, ws, e0, h1, h2, h3, h4, h5⟩ => ⟨a, b, ws, e0, by rw [upd_ne (ne_of h1 e (by intro z; cases z))]; exact h1, by rw [upd_ne (ne_of h2 e (by intro z; cases z))]; exact h2, h3, h4, NestsAt.updL e h5⟩
  | .bad, _, ⟨h1, h2⟩ => ⟨h1, h2.updL e⟩
theorem NestsAt.updL {K : PySem.W.Frag} {H : Hp} {p : Addr} {us vs : List V} (e : H p = some (.lst us)) : ∀ {ns : List Nest} {ws : List V}, NestsAt K H ns ws → NestsAt K (upd H p (.lst vs)) ns ws
  | [], _, h => h
  | _ :: _, _, ⟨v, vr, e0, h1, h2⟩ => ⟨v, vr, e0, NestAt.updL e h1, NestsAt.updL e h2⟩
end
def okN (n : Nest) : Bool := valid none n && decide (words n ≤ 60)
def spKnot (K : PySem.W.Frag) : Sp := fun vs H Q _ => ∃ v, vs = [v] ∧ ((NoKnot K H v ∧ ∀ H', Same H H' → Q (.bl false) H') ∨
  ∃ a b k us, v = .ref a ∧ H a = some (.tup [.str (kS k), .ref b]) ∧ H b = some (.tup us) ∧ 2 ≤ us.length ∧ us.length ≤ 1000 ∧ ∀ H', Same H H' → Q (.bl true) H')
def spIsNest (K : PySem.W.Frag) : Sp := fun vs H Q _ => ∃ v n, vs = [v] ∧ NestAt K H n v ∧ ∀ H', Same H H' → Q (.bl (okN n)) H'
theorem kS_in (k : Bool) : inV (.str (kS k)) [.str "+", .str "-"] = true := by cases k <;> decide +kernel
theorem kS_notIn {z : Str} (h1 : z ≠ "+") (h2 : z ≠ "-") : inV (.str z) [.str "+", .str "-"] = false := by
  unfold inV
  simp only [List.any_cons, List.any_nil, Bool.or_false, eqV, Bool.or_eq_false_iff, beq_eq_false_iff_ne, ne_eq]
  first
  | exact ⟨h1, h2⟩
  | exact ⟨fun e => h1 e.symm, fun e => h2 e.symm⟩
theorem kS_ne (k : Bool) (o : Option Bool) : decide (V.str (kS k) = V.str (aS o)) = decide (o = some k) := by
  cases o with
  | none => cases k <;> decide +kernel
  | some j => cases k <;> cases j <;> decide +kernel
def WaitAt (K : PySem.W.Frag) (H : Hp) : List (Nest × Option Bool) → List Addr → Prop
  | [], ts => ts = []
  | p :: r, ts => ∃ t tr v, ts = t :: tr ∧ H t = some (.tup [v, .str (aS p.2)]) ∧ NestAt K H p.1 v ∧ WaitAt K H r tr
theorem WaitAt.mono {K : PySem.W.Frag} {H H' : Hp} (s : Same H H') : ∀ {st : List (Nest × Option Bool)} {ts : List Addr}, WaitAt K H st ts → WaitAt K H' st ts
  | [], _, h => h
  | _ :: _, _, ⟨t, tr, v, e, h1, h2, h3⟩ => ⟨t, tr, v, e, s _ _ h1, h2.mono s, WaitAt.mono s h3⟩
theorem WaitAt.updL {K : PySem.W.Frag} {H : Hp} {p : Addr} {us vs : List V} (e : H p = some (.lst us)) : ∀ {st : List (Nest × Option Bool)} {ts : List Addr}, WaitAt K H st ts → WaitAt K (upd H p (.lst vs)) st ts
  | [], _, h => h
  | _ :: _, _, ⟨t, tr, v, e0, h1, h2, h3⟩ => ⟨t, tr, v, e0, by rw [upd_ne (ne_of h1 e (by intro z; cases z))]; exact h1, h2.updL e, WaitAt.updL e h3⟩
theorem WaitAt.len {K : PySem.W.Frag} {H : Hp} : ∀ {st : List (Nest × Option Bool)} {ts : List Addr}, WaitAt K H st ts → st.length = ts.length
  | [], _, h => by have h : _ = [] := h; subst h; rfl
  | _ :: _, _, ⟨_, _, _, e, _, _, h3⟩ => by subst e; simp [WaitAt.len h3]
theorem WaitAt.app {K : PySem.W.Frag} {H : Hp} : ∀ {a b : List (Nest × Option Bool)} {ts us : List Addr}, WaitAt K H a ts → WaitAt K H b us → WaitAt K H (a ++ b) (ts ++ us)
  | [], _, _, _, h, h' => by have h : _ = [] := h; subst h; exact h'
  | _ :: _, _, _, _, ⟨t, tr, v, e, h1, h2, h3⟩, h' => by subst e; exact ⟨t, _, v, rfl, h1, h2, WaitAt.app h3 h'⟩
theorem WaitAt.rev {K : PySem.W.Frag} {H : Hp} : ∀ {a : List (Nest × Option Bool)} {ts : List Addr}, WaitAt K H a ts → WaitAt K H a.reverse ts.reverse
  | [], _, h => by have h : _ = [] := h; subst h; rfl
  | _ :: _, _, ⟨t, tr, v, e, h1, h2, h3⟩ => by
    subst e
    rw [List.reverse_cons, List.reverse_cons]
    exact WaitAt.app (WaitAt.rev h3) ⟨t, [], v, rfl, h1, h2, rfl⟩
def waitW (st : List (Nest × Option Bool)) : Nat := (st.map fun p => words p.1).sum
def waitS (st : List (Nest × Option Bool)) : Nat := (st.map fun p => sizeN p.1).sum
def waitOk (st : List (Nest × Option Bool)) : Bool := st.all fun p => valid p.2 p.1
theorem WaitAt.words {K : PySem.W.Frag} {H : Hp} : ∀ {st : List (Nest × Option Bool)} {ts : List Addr}, WaitAt K H st ts → st.length ≤ waitW st
  | [], _, _ => by simp [waitW]
  | p :: r, _, ⟨_, _, _, _, _, h2, h3⟩ => by
    have a1 := words_pos h2
    have a2 := WaitAt.words h3
    unfold waitW at *
    simp only [List.map_cons, List.sum_cons, List.length_cons]
    omega
def within (k : Bool) (ps : List Nest) : List (Nest × Option Bool) := ps.map fun n => (n, some k)
theorem within_w (k : Bool) : ∀ ps, waitW (within k ps) = wordsL ps
  | [] => rfl
  | n :: r => by
    have := within_w k r
    unfold waitW within at *
    simp only [List.map_cons, List.sum_cons, wordsL]
    omega
theorem within_s (k : Bool) : ∀ ps, waitS (within k ps) = sizeL ps
  | [] => rfl
  | n :: r => by
    have := within_s k r
    unfold waitS within at *
    simp only [List.map_cons, List.sum_cons, sizeL]
    omega
theorem within_ok (k : Bool) : ∀ ps, waitOk (within k ps) = validL k ps
  | [] => rfl
  | n :: r => by
    have := within_ok k r
    unfold waitOk within at *
    simp only [List.map_cons, List.all_cons, validL, this]
theorem waitW_app (a b : List (Nest × Option Bool)) : waitW (a ++ b) = waitW a + waitW b := by simp [waitW]
theorem waitS_app (a b : List (Nest × Option Bool)) : waitS (a ++ b) = waitS a + waitS b := by simp [waitS]
theorem waitOk_app (a b : List (Nest × Option Bool)) : waitOk (a ++ b) = (waitOk a && waitOk b) := by simp [waitOk]
theorem waitW_rev (a : List (Nest × Option Bool)) : waitW a.reverse = waitW a := by simp [waitW]
theorem waitS_rev (a : List (Nest × Option Bool)) : waitS a.reverse = waitS a := by simp [waitS]
theorem waitOk_rev (a : List (Nest × Option Bool)) : waitOk a.reverse = waitOk a := by simp [waitOk]
end Tn
namespace Tn
open PySem L2
structure Ent where
  e : Addr
  p : Addr
  k : Bool
  ns : List Nest
  vs : List V
def EntAt (K : PySem.W.Frag) (H : Hp) (x : Ent) : Prop := H x.e = some (.lst [.str (kS x.k), .ref x.p]) ∧ H x.p = some (.lst x.vs) ∧ NestsAt K H x.ns x.vs
def addrs : List Ent → List Addr
  | [] => []
  | x :: r => x.e :: x.p :: addrs r
def refsE (st : List Ent) : List V := st.reverse.map fun x => V.ref x.e
structure PileAt (K : PySem.W.Frag) (B H : Hp) (pl : Addr) (st : List Ent) : Prop where
  here : H pl = some (.lst (refsE st))
  ents : ∀ x ∈ st, EntAt K H x
  nd : (pl :: addrs st).Nodup
  fresh : ∀ a ∈ pl :: addrs st, B a = none
  same : Same B H
def lackT (st : List Ent) : Nat := (st.map fun x => 1 - x.vs.length).sum
def lackR : List Ent → Nat
  | [] => 0
  | x :: r => (2 - x.vs.length) + lackT r
def KindsR (kind : Bool) : List Ent → Prop
  | [] => False
  | [x] => x.k = kind
  | x :: y :: r => x.k = !y.k ∧ KindsR kind (y :: r)
def pileW (st : List Ent) : Nat := (st.map fun x => wordsL x.ns).sum
def spMore (K : PySem.W.Frag) : Sp := fun vs H Q _ => ∃ (l : Addr) (ns : List Int), vs = [.ref l] ∧ SqL K H l (ns.map V.int) ∧ ns.length ≤ 63 ∧
  ∀ (f : Addr) (ms : List Int) (H' : Hp), H f = none → H' f = some (.lst (ms.map V.int)) → Same H H' → ms.length = 3 * ns.length → Q (.ref f) H'
def spLack (K : PySem.W.Frag) : Sp := fun vs H Q _ => ∃ (pl : Addr) (x : Ent) (r : List Ent), vs = [.ref pl] ∧ H pl = some (.lst (refsE (x :: r))) ∧ (∀ y ∈ x :: r, EntAt K H y) ∧ r.length ≤ 900 ∧
  ∀ H', Same H H' → Q (.int (lackR (x :: r) : Nat)) H'
def spNest (K : PySem.W.Frag) : Sp := fun vs H Q _ => ∃ (l : Addr) (cs : List Int) (k : Bool) (most : Nat), vs = [.ref l, .str (kS k), .int (most : Int)] ∧ SqL K H l (cs.map V.int) ∧ cs.length ≤ 200 ∧
  ∀ (n : Nest) (v : V) (H' : Hp), NestAt K H' n v → valid none n = true → (words n ≤ most ∨ words n = 1) → Same H H' → Q v H'
end Tn
namespace L2
open PySem PySem.Spec PyProof.Rows
section
variable {X : Cx}
end
end L2
namespace Tn
open PySem L2
mutual
theorem depth_words {K : PySem.W.Frag} {H : Hp} : ∀ {n : Nest} {v : V}, NestAt K H n v → depthN n + 1 ≤ words n
  | .word, _, _ => by simp [words, depthN]
  | .knot _ ps, _, ⟨_, _, vs, _, _, _, h3, _, h5⟩ => by
    have h6 := depthL_words h5
    have h7 := NestsAt.len h5
    simp only [words, depthN]
    omega
  | .bad, _, _ => by simp [words, depthN]
theorem depthL_words {K : PySem.W.Frag} {H : Hp} : ∀ {ns : List Nest} {vs : List V}, NestsAt K H ns vs → depthL ns + ns.length ≤ wordsL ns
  | [], _, _ => by simp [wordsL, depthL]
  | n :: r, _, ⟨_, _, _, h1, h2⟩ => by
    have h3 := depth_words h1
    have h4 := depthL_words h2
    have h5 := wordsL_pos h2
    have h6 := words_pos h1
    simp only [wordsL, depthL, List.length_cons]
    have : Nat.max (depthN n) (depthL r) ≤ depthN n ∨ Nat.max (depthN n) (depthL r) ≤ depthL r := by
      rcases Nat.le_total (depthN n) (depthL r) with h | h
      · right; exact Nat.max_le.mpr ⟨h, Nat.le_refl _⟩
      · left; exact Nat.max_le.mpr ⟨Nat.le_refl _, h⟩
    omega
end
def spMust (K : PySem.W.Frag) (C : Addr) : Sp := fun vs H Q E => ∃ v n, vs = [v] ∧ NestAt K H n v ∧ (okN n = true → ∀ H', Same H H' → Q .non H') ∧ (okN n = false → ∀ H', Same H H' → E (.ref C) none H')
def spAsk (K : PySem.W.Frag) (C : Addr) (g : Nest → Nat) : Sp := fun vs H Q E => ∃ v n, vs = [v] ∧ NestAt K H n v ∧ (okN n = true → ∀ H', Same H H' → Q (.int (g n : Nat)) H') ∧ (okN n = false → ∀ H', Same H H' → E (.ref C) none H')
def spCount (K : PySem.W.Frag) (g : Nest → Nat) (d : Nat) : Sp := fun vs H Q _ => ∃ v n o, vs = [v] ∧ NestAt K H n v ∧ valid o n = true ∧ depthN n < d ∧ ∀ H', Same H H' → Q (.int (g n : Nat)) H'
theorem okN_valid {n : Nest} (h : okN n = true) : valid none n = true ∧ words n ≤ 60 := by
  unfold okN at h
  obtain ⟨a, b⟩ := Bool.and_eq_true_iff.mp h
  exact ⟨a, of_decide_eq_true b⟩
theorem validL_get {k : Bool} : ∀ {ps : List Nest} {i : Nat} {n : Nest}, validL k ps = true → ps[i]? = some n → valid (some k) n = true
  | [], _, _, _, h => nomatch h
  | m :: r, 0, _, hv, h => by cases h; simp only [validL, Bool.and_eq_true] at hv; exact hv.1
  | m :: r, i + 1, _, hv, h => by simp only [validL, Bool.and_eq_true] at hv; exact validL_get (i := i) hv.2 (by simpa using h)
theorem depthL_get : ∀ {ps : List Nest} {i : Nat} {n : Nest}, ps[i]? = some n → depthN n ≤ depthL ps
  | [], _, _, h => nomatch h
  | m :: r, 0, _, h => by cases h; simp only [depthL]; exact Nat.le_max_left _ _
  | m :: r, i + 1, _, h => by simp only [depthL]; exact Nat.le_trans (depthL_get (i := i) (by simpa using h)) (Nat.le_max_right _ _)
theorem wordsL_sum : ∀ ps : List Nest, ((ps.map fun n => ((words n : Nat) : Int)).sum) = ((wordsL ps : Nat) : Int)
  | [] => rfl
  | n :: r => by simp only [List.map_cons, List.sum_cons, wordsL, wordsL_sum r]; omega
end Tn
namespace Tn
open L2 PySem PySem.W PySem.Calls PyProof.Rows PySem.Spec
theorem try_call {X : Cx} {k : Nat} {f C : Addr} {fd : FuncData} {ps : List Str} {sp : Sp} {x cx n : Str} {p cpos epos tp hpos : Pos} {e : Expr} {es : List Expr} {t : TA} {b0 : Stmt} {suite : List Stmt} {tH : Addr → TS} {i : Nat}
    (F : FnOk X.prog X.w X.K X.mg X.base (CXV X.prog X.w) k f fd ps sp) (hr : Room k X.A) (hg : Gl X x) (hm : X.mg x = some (.ref f)) (hk : keepIn X.K (.ref f) = true) (hb : Binds X.K fd ps [])
    (hstk : X.stack = X.env :: X.outer) (hfr : X.env.frame = some X.env.locals) (hgC : Gl X cx) (hmC : X.mg cx = some (.ref C)) (T : CatTxt X.K C) (hN : X.N.Nodup) (hi : X.N[i]? = some n) (hkn : X.env.kindOf n = some .local)
    (ha : PA X.nox (e :: es) t) (hs : ∀ y, PSs (caught X y) (b0 :: suite) (tH y))
    (hdb : (x == ("__debug__" : Str)) = false := by decide) (hdC : (cx == ("__debug__" : Str)) = false := by decide) (he : starEach (e :: es) X.env = (false, eval e X.env) :: starEach es X.env := by rfl) (hpl : (backTo cpos (starEach es X.env)).any (·.1) = false := by rfl)
    (hsw : swapsWith (.Call (.Name x p) (e :: es) [] cpos) none epos.line X.env = pure false := by rfl)
    {pins : List (Addr × Obj)} {s : Shared} {σ : L2.St} {H : Hp} {D : Ends} (I : Inv X pins σ H s) (h : sTry X.K C sp t i tH D σ H) {Fn : Flow → Shared → Prop} (hFn : ∀ s' H2, Inv X pins σ H2 s' → D.nx σ H2 → Fn .next s') :
    wpAny (model X.prog X.w) X.A (execs [.Expr (.Call (.Name x p) (e :: es) [] cpos) epos] X.env) Fn (fun e s₁ => wpAny (model X.prog X.w) X.A (noteFrame e X.env) (fun _ s₂ => wpAny (model X.prog X.w) X.A (setFlight e none) (fun _ s₃ => wpAny (model X.prog X.w) X.A (handleBy e X.env [.ExceptHandler (some (.Name cx tp)) (some n) (b0 :: suite) hpos]) (SP X pins D) X.xe s₃) X.xe s₂) X.xe s₁) s := by
  refine wpAny_execs_cons ?_
  refine wpAny_Expr_any ?_ I.quiet hsw
  refine wpAny_Call_Name_kw (ld_glob I hg hm ?_ hdb)
  refine callWith_K (h₀ := X.base) I.ok.mod.kin hk (wpAny_mono (ha cpos pins s σ H _ (I.wish _) h) (fun us s1 z => ?_) fun _ _ z => False.elim z) he hpl
  obtain ⟨vs, H1, I1', r, q⟩ := z
  have I1 : Inv X pins σ H1 s1 := I1'.unwish
  refine ⟨I1.kIn, ?_⟩
  have hl : us.length = ps.length := by rw [← r.length]; exact F.len _ _ _ _ q
  have hbd := hb s1 us I1.kIn (by simpa using hl)
  rw [List.append_nil] at hbd
  refine wpAny_call (codeAny_mono (F.run X.A X.stack s1 H1 ⟨us, []⟩ us vs _ _ hr I1.env0 hbd r q) fun rr s' hq => ?_)
  cases rr with
  | ok fl =>
    cases fl with
    | ret u =>
      obtain ⟨v, H2, I2, _, q2⟩ := I1.after hq
      exact wpAny_execs_nil (hFn _ _ I2 q2)
    | next => exact False.elim hq
    | brk => exact False.elim hq
    | cont => exact False.elim hq
  | error e =>
    obtain ⟨y, cls, a0, B, H', rfl, os, bare, un, hok, fl, c, hn, Dd, rfl, TD, hmr, hH⟩ := hq
    have nw : s1.heap.get? y = none := fly_new fl c
    have hfr0 := I1.ok.frames
    rw [hstk] at fl hfr0 un c
    refine wpAny_looks_onW (base := B) hfr0 hfr fl fun h1 hd1 sl1 => ?_
    obtain ⟨un1, hok1⟩ := lie_step un hok c (fly_frames fl) fl.1 hd1.1 sl1
    refine wpAny_landsW hd1 fun h2 fl2 sl2 => ?_
    obtain ⟨un2, hok2⟩ := lie_step un1 hok1 c (fun b hb => (hd1.2.2.1.mem hb).2) hd1.1 fl2.1 sl2
    have ex2 : ExAt h2 y Dd := let ⟨ob, e1, e2⟩ := fl2.there; ⟨ob, e1, e2⟩
    have I2 : Inv X pins σ H' { s' with heap := h2 } := I1.call' (s' := { s' with heap := h2 }) (ch := []) os (by rw [hstk]; exact un2) hok2 bare (fun b z => absurd z (by simp))
    refine wpAny_handleBy_cons (codeAny_handlers_test ?_) (by intro z; cases z)
    refine ld_glob (X := caught X y) (to_caught I2 y) hgC hmC ?_ hdC
    refine exc_match (K := X.K) (D := Dd) I2.kIn TD ex2 T.cls T.ty T.be hmr ?_
    refine codeAny_handlers_suite_as ?_
    refine lands_againW fl2 fun h3 fl3 sl3 => ?_
    obtain ⟨un3, hok3⟩ := lie_step un2 hok2 c (fly_frames fl2) fl2.1 fl3.1 sl3
    have ex3 : ExAt h3 y Dd := let ⟨ob, e1, e2⟩ := fl3.there; ⟨ob, e1, e2⟩
    have I3 : Inv X pins σ (upd H' y (exO y Dd)) { s' with heap := h3 } := I1.call' (s' := { s' with heap := h3 }) (ch := []) os (by rw [hstk]; exact un_ext un3 nw hn) (hok_ext hok3 hn ex3) bare (fun b z => absurd z (by simp))
    refine store_ok (X := caught X y) (to_caught I3 y) hN hi (.inl hkn) (v := .ref y) rfl (fun s4 I4 => ?_) (.inr hkn)
    refine wpAny_mono (hs y pins s4 _ _ _ I4 (hH y hn)) (fun f s5 z => ?_) fun _ _ z => False.elim z
    cases f with
    | next =>
      obtain ⟨σ5, H5, I5, q5⟩ := z
      exact name_gone (of_caught I.ok I5) hN hi hkn fun s6 I6 => ⟨_, H5, I6, q5⟩
    | ret u => obtain ⟨_, _, _, _, _, q5⟩ := z; exact False.elim q5
    | brk => obtain ⟨_, _, _, q5⟩ := z; exact False.elim q5
    | cont => obtain ⟨_, _, _, q5⟩ := z; exact False.elim q5
def sTryIf (K : Frag) (C : Addr) (tc : TT) (sp sp' : Sp) (t t' : TA) (i : Nat) (tH : Addr → TS) : TS := fun D σ H => tc σ H fun b H1 => if b = true then sTry K C sp t i tH D σ H1 else sTry K C sp' t' i tH D σ H1
theorem ps_tryIf {X : Cx} {k k' : Nat} {f f' C : Addr} {fd fd' : FuncData} {ps ps' : List Str} {sp sp' : Sp} {x x' cx n : Str} {p cpos epos p' cpos' epos' tp hpos tpos ipos : Pos} {e e' c : Expr} {es es' : List Expr} {t t' : TA} {tc : TT} {b0 : Stmt} {suite : List Stmt} {tH : Addr → TS} {i : Nat}
    (hc : PT X.nox c tc)
    (F : FnOk X.prog X.w X.K X.mg X.base (CXV X.prog X.w) k f fd ps sp) (hr : Room k X.A) (hg : Gl X x) (hm : X.mg x = some (.ref f)) (hk : keepIn X.K (.ref f) = true) (hb : Binds X.K fd ps [])
    (F' : FnOk X.prog X.w X.K X.mg X.base (CXV X.prog X.w) k' f' fd' ps' sp') (hr' : Room k' X.A) (hg' : Gl X x') (hm' : X.mg x' = some (.ref f')) (hk' : keepIn X.K (.ref f') = true) (hb' : Binds X.K fd' ps' [])
    (hstk : X.stack = X.env :: X.outer) (hfr : X.env.frame = some X.env.locals) (hgC : Gl X cx) (hmC : X.mg cx = some (.ref C)) (T : CatTxt X.K C) (hN : X.N.Nodup) (hi : X.N[i]? = some n) (hkn : X.env.kindOf n = some .local)
    (ha : PA X.nox (e :: es) t) (ha' : PA X.nox (e' :: es') t') (hs : ∀ y, PSs (caught X y) (b0 :: suite) (tH y))
    (hdb : (x == ("__debug__" : Str)) = false := by decide) (hdC : (cx == ("__debug__" : Str)) = false := by decide) (he : starEach (e :: es) X.env = (false, eval e X.env) :: starEach es X.env := by rfl) (hpl : (backTo cpos (starEach es X.env)).any (·.1) = false := by rfl)
    (hsw : swapsWith (.Call (.Name x p) (e :: es) [] cpos) none epos.line X.env = pure false := by rfl)
    (hdb' : (x' == ("__debug__" : Str)) = false := by decide) (he' : starEach (e' :: es') X.env = (false, eval e' X.env) :: starEach es' X.env := by rfl) (hpl' : (backTo cpos' (starEach es' X.env)).any (·.1) = false := by rfl)
    (hsw' : swapsWith (.Call (.Name x' p') (e' :: es') [] cpos') none epos'.line X.env = pure false := by rfl) :
    PS X (.Try [.If c [.Expr (.Call (.Name x p) (e :: es) [] cpos) epos] [.Expr (.Call (.Name x' p') (e' :: es') [] cpos') epos'] ipos] [.ExceptHandler (some (.Name cx tp)) (some n) (b0 :: suite) hpos] [] [] tpos) (sTryIf X.K C tc sp sp' t t' i tH) := by
  intro pins s σ H D I h
  refine wpAny_Try_except (wpAny_execs_cons (wpAny_If (wpAny_mono (hc pins s σ H _ (I.wish _) h) (fun d s1 z => ?_) fun _ _ z => False.elim z)))
  obtain ⟨H1, I1', q1⟩ := z
  have I1 : Inv X pins σ H1 s1 := I1'.unwish
  cases d with
  | true => exact try_call F hr hg hm hk hb hstk hfr hgC hmC T hN hi hkn ha hs hdb hdC he hpl hsw I1 q1 fun s' H2 I2 q2 => wpAny_execs_nil (wpAny_execs_nil ⟨σ, H2, I2, q2⟩)
  | false => exact try_call F' hr' hg' hm' hk' hb' hstk hfr hgC hmC T hN hi hkn ha' hs hdb' hdC he' hpl' hsw' I1 q1 fun s' H2 I2 q2 => wpAny_execs_nil (wpAny_execs_nil ⟨σ, H2, I2, q2⟩)
end Tn
namespace L2
open PySem PySem.Spec PyProof PyProof.Rows
theorem cat_tup0 {prog : Program} {w : World} {A : Around} {E : Value → Shared → Prop} {s : Shared} {t b : Addr} {ws : List Value} {Q : Value → Shared → Prop} (ht : IsTup s.heap t ([] : List Value).toArray) (hb : IsTup s.heap b ws.toArray) (h : Q (.ref b) s) :
    wpAny (model prog w) A (binaryOp .Add (.ref t) (.ref b)) Q E s := by
  obtain ⟨⟨cls, dd, data, sl⟩, ho, hc, n, hd⟩ := ht
  obtain ⟨⟨cls2, dd2, data2, sl2⟩, ho2, hc2, n2, hd2⟩ := hb
  cases hc
  cases hd
  cases hc2
  cases hd2
  exact concat_meets ⟨_, ho, rfl⟩ ⟨_, ho2, rfl⟩ noFill_tuple_add seq_tuple_add F.slot_tuple_add F.entry_tuple_add (F.args_tuple_add_2 _ _) (tuple_addW0 t b _ _ n n2 dd dd2 sl sl2 (by simp)) ⟨ho, ho2, h⟩
section
variable {X : Cx}
def rRepT (K : PySem.W.Frag) : R2 := fun x y H Q => ∃ a k z, x = .ref a ∧ y = .int k ∧ SqT K H a [z] ∧ 1 < k ∧ k < 1000000 ∧ ∀ p, H p = none → Q (.ref p) (upd H p (.tup (List.replicate k.toNat z)))
def rCatA (K : PySem.W.Frag) : R2 := fun x y H Q => ∃ a b xs ys, x = .ref a ∧ y = .ref b ∧ SqT K H a xs ∧ SqT K H b ys ∧ xs.length + ys.length ≤ sizeLine ∧
  ((xs = [] ∧ Q (.ref b) H) ∨ (xs ≠ [] ∧ ys = [] ∧ Q (.ref a) H) ∨ (xs ≠ [] ∧ ys ≠ [] ∧ ∀ p, H p = none → Q (.ref p) (upd H p (.tup (xs ++ ys)))))
theorem op_catA : OpR X (binaryOp .Add) (rCatA X.K) := by
  intro pins s σ H x y v u Q I rx ry h
  obtain ⟨a, b, xs, ys, rfl, rfl, ha, hb, hz, h⟩ := h
  cases rx
  cases ry
  obtain ⟨its, r1, p1, _⟩ := I.tuple ha
  obtain ⟨its2, r2, p2, _⟩ := I.tuple hb
  rcases h with ⟨hx, q⟩ | ⟨hx, hy, q⟩ | ⟨hx, hy, q⟩
  · subst hx
    cases r1
    exact cat_tup0 p1 p2 ⟨.ref b, H, I, rfl, q⟩
  · exact HT.cat_tup p1 p2 (fun z => hx (r1.nil_iff.mp z)) (fun z => ⟨.ref a, H, I, rfl, q⟩) (fun z => absurd (r2.nil_iff.mpr hy) z) (by rw [← r1.length, ← r2.length]; exact hz)
  · refine HT.cat_tup p1 p2 (fun z => hx (r1.nil_iff.mp z)) (fun z => absurd (r2.nil_iff.mp z) hy) (fun z => ?_) (by rw [← r1.length, ← r2.length]; exact hz)
    refine ⟨.ref s.heap.objs.size, _, I.laid (t' := s.toks) (o := .tup (xs ++ ys)) (fun b ob q => Heap.get?_push_of_some _ q) (Nat.le_refl _) ?_, rfl, q _ (I.hok.fresh (Nat.le_refl _))⟩
    exact ⟨by rw [List.length_append]; exact hz, _, r1.append r2, IsTupN.new _ _⟩
end
end L2
namespace Tn
open PySem L2
theorem kit_not (K : PySem.W.Frag) {n m : String} (h0 : PySem.W.kitMeta m = true) (h1 : (Value.type n == Value.type m) = false) (h2 : (fastBuiltinMro n).map (·.contains (.type m)) = some false) : PySem.W.kitOne K (.type n) (.type m) = some false := by
  unfold PySem.W.kitOne
  rw [if_neg (by rw [h1]; decide)]
  show (if PySem.W.kitMeta m = true then PySem.W.subIn K (.type n) (.type m) else none) = some false
  rw [if_pos h0]
  exact h2
theorem bad_int (K : PySem.W.Frag) (H : Hp) (i : Int) : NestAt K H .bad (.int i) := ⟨(fun z => nomatch z), .ty (.int i) (kit_not K (by decide +kernel) (by decide +kernel) (by decide +kernel))⟩
theorem bad_bl (K : PySem.W.Frag) (H : Hp) (b : Bool) : NestAt K H .bad (.bl b) := ⟨(fun z => nomatch z), .ty (.bl b) (kit_not K (by decide +kernel) (by decide +kernel) (by decide +kernel))⟩
theorem bad_str (K : PySem.W.Frag) (H : Hp) (z : Str) : NestAt K H .bad (.str z) := ⟨(fun z => nomatch z), .ty (.str z) (kit_not K (by decide +kernel) (by decide +kernel) (by decide +kernel))⟩
theorem bad_lst (K : PySem.W.Frag) {H : Hp} {a : Addr} {xs : List V} (e : H a = some (.lst xs)) : NestAt K H .bad (.ref a) := ⟨(fun z => nomatch z), .ty (.lst e) (kit_not K (by decide +kernel) (by decide +kernel) (by decide +kernel))⟩
theorem bad_len (K : PySem.W.Frag) {H : Hp} {a : Addr} {xs : List V} (e : H a = some (.tup xs)) (h : xs.length ≠ 2) : NestAt K H .bad (.ref a) := ⟨(fun z => nomatch z), .len e h⟩
theorem typed_non (K : PySem.W.Frag) (H : Hp) : Typed K H .non := ⟨_, _, .non, kit_not K (by decide +kernel) (by decide +kernel) (by decide +kernel)⟩
theorem typed_tup (K : PySem.W.Frag) {H : Hp} {a : Addr} {xs : List V} (e : H a = some (.tup xs)) : Typed K H (.ref a) := ⟨_, _, .tup e, kit_same _ _⟩
theorem bad_none2 (K : PySem.W.Frag) {H : Hp} {a : Addr} {y : V} (e : H a = some (.tup [.non, y])) (hy : Typed K H y) : NestAt K H .bad (.ref a) := ⟨(fun z => nomatch z), .notStr e .non (kit_not K (by decide +kernel) (by decide +kernel) (by decide +kernel)) hy⟩
theorem bad_kind (K : PySem.W.Frag) {H : Hp} {a : Addr} {z : Str} {y : V} (e : H a = some (.tup [.str z, y])) (h1 : z ≠ "+") (h2 : z ≠ "-") (hy : Typed K H y) : NestAt K H .bad (.ref a) := ⟨(fun z => nomatch z), .kind e h1 h2 hy⟩
theorem bad_parts (K : PySem.W.Frag) {H : Hp} {a b : Addr} {k : Bool} {xs : List V} (e : H a = some (.tup [.str (kS k), .ref b])) (eb : H b = some (.lst xs)) : NestAt K H .bad (.ref a) := ⟨(fun z => nomatch z), .notTup e (.lst eb) (kit_not K (by decide +kernel) (by decide +kernel) (by decide +kernel))⟩
theorem bad_few (K : PySem.W.Frag) {H : Hp} {a b : Addr} {k : Bool} {xs : List V} (e : H a = some (.tup [.str (kS k), .ref b])) (eb : H b = some (.tup xs)) (h : xs.length < 2) : NestAt K H .bad (.ref a) := ⟨(fun z => nomatch z), .few e eb h⟩
theorem NestsAt.take {K : PySem.W.Frag} {H : Hp} : ∀ {ns : List Nest} {vs : List V} (k : Nat), NestsAt K H ns vs → NestsAt K H (ns.take k) (vs.take k)
  | _, _, 0, _ => by rw [List.take_zero, List.take_zero]; rfl
  | [], _, _ + 1, h => by have h : _ = [] := h; subst h; rfl
  | _ :: _, _, k + 1, ⟨v, vr, e, h1, h2⟩ => by subst e; exact ⟨v, _, rfl, h1, NestsAt.take k h2⟩
theorem NestsAt.drop {K : PySem.W.Frag} {H : Hp} : ∀ {ns : List Nest} {vs : List V} (k : Nat), NestsAt K H ns vs → NestsAt K H (ns.drop k) (vs.drop k)
  | _, _, 0, h => h
  | [], _, _ + 1, h => by have h : _ = [] := h; subst h; rfl
  | _ :: _, _, k + 1, ⟨v, vr, e, h1, h2⟩ => by subst e; exact NestsAt.drop k h2
theorem validL_bad {k : Bool} (a b : List Nest) {n : Nest} (h : valid (some k) n = false) : validL k (a ++ [n] ++ b) = false := by
  rw [validL_app, validL_app]
  simp [validL, h]
theorem cutV_head (xs : List V) (k : Nat) (h : k ≤ xs.length) : cutV xs none (some (k : Int)) = xs.take k := by
  have := cut_head id xs k h
  simpa using this
theorem cutV_tail (xs : List V) (k : Nat) (h : k ≤ xs.length) : cutV xs (some (k : Int)) none = xs.drop k := by
  have := cut_tail id xs k h
  simpa using this
def spNone (K : PySem.W.Frag) : Sp := fun vs H Q _ => ∃ v n c, vs = [v, .int c] ∧ NestAt K H n v ∧ valid none n = true ∧ words n ≤ 60 ∧ ∀ (n' : Nest) (v' : V) (H' : Hp), NestAt K H' n' v' → okN n' = false → Same H H' → Q v' H'
end Tn
namespace Tn
open L2 PySem PySem.W PySem.Calls PyProof.Rows PySem.Spec
def Has (P : Program) (w : World) (K : PySem.W.Frag) (mg : Str → Option Value) (base : Heap) (CX : CXT) (k : Nat) (x : Str) (ps : List Str) (sp : Sp) : Prop :=
  ∃ (f : Addr) (fd : FuncData), FnOk P w K mg base CX k f fd ps sp ∧ PySem.W.keepIn K (.ref f) = true ∧ mg x = some (.ref f) ∧ Binds K fd ps []
structure Def (K : PySem.W.Frag) (mg : Str → Option Value) (x : Str) (st : Stmt) (ps : List Str) : Prop where
  ex : ∃ (f : Addr) (fd : FuncData), L2.Fun K x x st f fd ∧ PySem.W.keepIn K (.ref f) = true ∧ mg x = some (.ref f) ∧ Binds K fd ps []
section
variable {P : Program} {w : World} {K : PySem.W.Frag} {mg : Str → Option Value} {base : Heap} {x : Str} {st : Stmt} {N ps : List Str} {k : Nat} {sp sp' : Sp} {CX : CXT}
theorem Def.ok (D : Def K mg x st ps) (S : FnScope N ps (defScope st)) (len : ∀ vs H Q E, sp vs H Q E → vs.length = ps.length)
    (hbody : ∀ (f : Addr) (cdv : Value) (A : Around) (outer : List Env) (s : Shared) (H : Hp) (vs : List V) (Q : VK) (E : XK), Room k (A.deeper (envOfC x (defScope st) s.heap.objs.size f cdv)) → sp vs H Q E →
      ∃ t, PSs (cxOf CX0 P w K mg base N x (defScope st) f cdv A outer s H E).nox (defBody st) t ∧ t { nx := fun _ H' => Q .non H', rt := Q } (start N vs) H) : Has P w K mg base CX0 (k + 1) x ps sp := by
  obtain ⟨f, fd, F, h1, h2, h3⟩ := D.ex
  exact ⟨f, fd, F.ok S len (fun cdv A outer s H vs Q E => hbody f cdv A outer s H vs Q E), h1, h2, h3⟩
theorem Def.okV (D : Def K mg x st ps) (S : FnScope N ps (defScope st)) (len : ∀ vs H Q E, sp vs H Q E → vs.length = ps.length)
    (hbody : ∀ (f : Addr) (cdv : Value) (A : Around) (outer : List Env) (s : Shared) (H : Hp) (vs : List V) (Q : VK) (E : XK), Room k (A.deeper (envOfC x (defScope st) s.heap.objs.size f cdv)) → sp vs H Q E →
      ∃ t, PSs (cxOf (CXV P w) P w K mg base N x (defScope st) f cdv A outer s H E) (defBody st) t ∧ t { nx := fun _ H' => Q .non H', rt := Q } (start N vs) H) : Has P w K mg base (CXV P w) (k + 1) x ps sp := by
  obtain ⟨f, fd, F, h1, h2, h3⟩ := D.ex
  exact ⟨f, fd, funV F S len (fun cdv A outer s H vs Q E => hbody f cdv A outer s H vs Q E), h1, h2, h3⟩
theorem Def.rec0 (D : Def K mg x st ps) (h : ∀ vs H Q E, ¬ sp vs H Q E) : Has P w K mg base CX k x ps sp := by
  obtain ⟨f, fd, F, h1, h2, h3⟩ := D.ex
  exact ⟨f, fd, ⟨fun vs H Q E z => absurd z (h vs H Q E), fun A outer s H args us vs Q E _ _ _ _ z => absurd z (h vs H Q E)⟩, h1, h2, h3⟩
end
def tHas (sp : Sp) (E : XK) (t : TA) : TE := fun σ H Q => t σ H fun vs H1 => sp vs H1 Q E
section
variable {X : Cx}
theorem pe_has {CX : CXT} {k : Nat} {x : Str} {ps : List Str} {sp : Sp} {E : XK} {e : Expr} {es : List Expr} {t : TA} {p pos : Pos} (F : Has X.prog X.w X.K X.mg X.base CX k x ps sp) (hr : Room k X.A) (hg : Gl X x) (hx : Passes CX X E)
    (ha : PA X (e :: es) t) (hdb : (x == ("__debug__" : Str)) = false := by decide) (he : starEach (e :: es) X.env = (false, eval e X.env) :: starEach es X.env := by rfl) (hpl : (backTo pos (starEach es X.env)).any (·.1) = false := by rfl) :
    PE X (.Call (.Name x p) (e :: es) [] pos) (tHas sp E t) := by
  obtain ⟨f, fd, G, h1, h2, h3⟩ := F
  have e0 : tHas sp E t = tCall sp [] E t := by
    funext σ H Q
    show t σ H (fun vs H1 => sp vs H1 Q E) = t σ H (fun vs H1 => sp (vs ++ []) H1 Q E)
    congr 1
    funext vs H1
    rw [List.append_nil]
  rw [e0]
  exact pe_call G hr hg h2 h1 h3 .nil hx ha hdb he hpl
theorem op_mulW : OpR X (binaryOp .Mult) (rI IntMulOk fun i j => .int (i * j)) := opI fun _ _ _ _ _ _ _ hc q => PyProof.Rows.mul_int q hc
def rIsi (K : PySem.W.Frag) : List V → Hp → VK → Prop := fun xs H Q => ∃ x t n b, xs = [x, .ty n] ∧ TyOf K H x t ∧ PySem.W.kitOne K t (.type n) = some b ∧ Q (.bl b) H
end
structure ExcL (K : PySem.W.Frag) (T C : Addr) : Prop where
  xC : PySem.W.excIn K C bmVE "ValueError.__new__" = true
  tx : ExcTxt K C
  ct : CatTxt K T
  mr : PySem.W.mroIn K C (.ref T) = some true
  ve : PySem.W.kitOne K (.ref C) (.type "ValueError") = some true
def spCellAt (K : PySem.W.Frag) : Sp := fun vs H Q _ => ∃ (a : Addr) (ns : List Int) (k : Nat), vs = [.ref a, .int (k : Int)] ∧ SqL K H a (ns.map V.int) ∧ ∀ z : Int, Q (.int z) H
def spLawOf (K : PySem.W.Frag) : Sp := fun vs H Q _ => ∃ (a : Addr) (ns : List Int), vs = [.ref a] ∧ SqL K H a (ns.map V.int) ∧ ns.length ≤ 63 ∧ ∀ H', Q (.bl true) H'
end Tn
namespace Tn
open PySem L2
def rho (t : Nat × Nat) (i : Nat) : Nat := if t.1 ≤ i ∧ i < t.2 then t.1 + t.2 - 1 - i else i
def rhos (ts : List (Nat × Nat)) (i : Nat) : Nat := ts.foldr rho i
def turnF (row : List Int) (t : Nat × Nat) : List Int := row.take t.1 ++ ((row.drop t.1).take (t.2 - t.1)).reverse ++ row.drop t.2
def doneF (m : Nat) (ts : List (Nat × Nat)) : List Int := ts.foldl turnF (upto m)
def IsT (m : Nat) (t : Nat × Nat) : Prop := t.1 + 2 ≤ t.2 ∧ t.2 ≤ m
inductive NoPair (K : PySem.W.Frag) (H : Hp) : V → Prop where
  | ty {x : V} {t : Value} (h : TyOf K H x t) (k : PySem.W.kitOne K t (.type "tuple") = some false) : NoPair K H x
  | len {a : Addr} {xs : List V} (h : H a = some (.tup xs)) (k : xs.length ≠ 2) : NoPair K H (.ref a)
  | fst {a : Addr} {x y : V} (h : H a = some (.tup [x, y])) (k : NotW K H x) : NoPair K H (.ref a)
  | snd {a : Addr} {i : Int} {y : V} (h : H a = some (.tup [.int i, y])) (k : NotW K H y) : NoPair K H (.ref a)
def ThAt (K : PySem.W.Frag) (H : Hp) : Option (Int × Int) → V → Prop
  | some p, x => ∃ t, x = .ref t ∧ H t = some (.tup [.int p.1, .int p.2])
  | none, x => NoPair K H x
def isT (m : Int) : Option (Int × Int) → Bool
  | some p => decide (0 ≤ p.1) && (decide (p.1 + 2 ≤ p.2) && decide (p.2 ≤ m))
  | none => false
def ThsAt (K : PySem.W.Frag) (H : Hp) (os : List (Option (Int × Int))) (xs : List V) : Prop := Paired (fun o x => ThAt K H o x) os xs
def thing (t : Nat × Nat) : Option (Int × Int) := some ((t.1 : Int), (t.2 : Int))
def spIsTurn (K : PySem.W.Frag) : Sp := fun vs H Q _ => ∃ (x : V) (o : Option (Int × Int)) (m : Int), vs = [x, .int m] ∧ ThAt K H o x ∧ Q (.bl (isT m o)) H
def spDone (K : PySem.W.Frag) (C : Addr) : Sp := fun vs H Q E => ∃ (m : Nat) (l : Addr) (os : List (Option (Int × Int))) (xs : List V), vs = [.int (m : Int), .ref l] ∧ SqL K H l xs ∧ xs.length ≤ 1000 ∧ m ≤ 1000 ∧ ThsAt K H os xs ∧
  (∀ ts : List (Nat × Nat), os = ts.map thing → (∀ t ∈ ts, IsT m t) → ∀ (p : Addr) (H' : Hp), H p = none → H' p = some (.tup ((doneF m ts).map V.int)) → Same H H' → Q (.ref p) H') ∧
  ((∃ o ∈ os, isT (m : Int) o = false) → ∀ H', Same H H' → E (.ref C) none H')
def spMix : Sp := fun vs H Q _ => ∃ c k : Int, vs = [.int c, .int k] ∧ -1000000 ≤ k ∧ k ≤ 1000000 ∧ ∀ z : Int, Q (.int z) H
def spLOrder (K : PySem.W.Frag) : Sp := fun vs H Q _ => ∃ (t l : Addr) (ns : List Int), vs = [.ref t, .ref l] ∧ H t = some (.tup (ns.map V.int)) ∧ SqL K H l (ns.map V.int) ∧ ns.length ≤ 1000 ∧ ∀ H', Same H H' → Q (.bl true) H'
def spRefDone (K : PySem.W.Frag) : Sp := fun vs H Q _ => ∃ (m : Nat) (l : Addr) (os : List (Option (Int × Int))) (xs : List V), vs = [.int (m : Int), .ref l] ∧ SqL K H l xs ∧ xs.length ≤ 1000 ∧ m ≤ 1000 ∧ ThsAt K H os xs ∧ (∃ o ∈ os, isT (m : Int) o = false) ∧ ∀ H', Same H H' → Q (.bl true) H'
def spBad (K : PySem.W.Frag) : Sp := fun vs H Q _ => ∃ (m : Nat) (c : Int), vs = [.int (m : Int), .int c] ∧ 1 ≤ m ∧ m ≤ 60 ∧ ∀ (v : V) (o : Option (Int × Int)) (H' : Hp), ThAt K H' o v → isT (m : Int) o = false → Same H H' → Q v H'
def TrAt (H : Hp) (t : Nat × Nat) (x : V) : Prop := ∃ p, x = .ref p ∧ H p = some (.tup [.int (t.1 : Int), .int (t.2 : Int)])
def TrsAt (H : Hp) (ts : List (Nat × Nat)) (xs : List V) : Prop := Paired (fun t x => TrAt H t x) ts xs
def spDrawn (K : PySem.W.Frag) : Sp := fun vs H Q _ => ∃ (m : Nat) (l : Addr) (cs : List Int), vs = [.int (m : Int), .ref l] ∧ 1 ≤ m ∧ m ≤ 60 ∧ SqL K H l (cs.map V.int) ∧ cs.length ≤ 63 ∧
  ∀ (p : Addr) (xs : List V) (ts : List (Nat × Nat)) (H' : Hp), H p = none → H' p = some (.lst xs) → TrsAt H' ts xs → (∀ t ∈ ts, IsT m t) → ts.length ≤ cs.length → Same H H' → Q (.ref p) H'
end Tn
namespace Tn
open PySem L2
def tab : List Int := [0, 0, 1, 3, 11, 45, 197, 903, 4279, 20793, 103049, 518859, 2646723, 13648869, 71039373, 372693519, 1968801519, 10463578353, 55909013009, 300159426963, 1618362158587, 8759309660445, 47574827600981, 259215937709463, 1416461675464871, 7760733824437545, 42624971294485657, 234643073935918683, 1294379445480318899, 7154203054548921813, 39614015909996567325, 219721391307807180831, 1220631504623087926239, 6791142807106951594977, 37836272668898230450209, 211079263903460624841507, 1179022517498408548259307, 6593381114984955663097869, 36912754633401605027088357, 206872001855792377621111719, 1160541512681304496111863447, 6516761034998757444607546137, 36626471726431599611696929449, 206030721360035302454144967147, 1159912468318756966857440738979, 6535196976312757458815954316741, 36848290359517384607151953278125, 207915629812563503607757047978543, 1173964326073477816650882885177039, 6632973754276801154684587715682513, 37500380783381913572612470593205809, 212141771616845919130216540310379699, 1200796887336896148680723089518807003, 6800738671816200263883634106524384509, 38536889636442988510011627147957814133, 218485512042977398145305151653730733495, 1239326915845038050044360149141574744711, 7033292023264506862542551780260402287369, 39933155439917081614646297332853271801017, 226831767346925097843230333561691461750139, 1289029341311590594848983468869684443027347]
def wtab : List Int := [1, 1, 2, 6, 22, 90, 394, 1806, 8558, 41586, 206098, 1037718, 5293446, 27297738, 142078746, 745387038, 3937603038, 20927156706, 111818026018, 600318853926, 3236724317174, 17518619320890, 95149655201962, 518431875418926, 2832923350929742, 15521467648875090, 85249942588971314, 469286147871837366, 2588758890960637798, 14308406109097843626, 79228031819993134650, 439442782615614361662, 2441263009246175852478, 13582285614213903189954, 75672545337796460900418, 422158527806921249683014, 2358045034996817096518614, 13186762229969911326195738, 73825509266803210054176714, 413744003711584755242223438, 2321083025362608992223726894, 13033522069997514889215092274, 73252943452863199223393858898, 412061442720070604908289934294, 2319824936637513933714881477958, 13070393952625514917631908633482, 73696580719034769214303906556250, 415831259625127007215514095957086, 2347928652146955633301765770354078, 13265947508553602309369175431365026, 75000761566763827145224941186411618, 424283543233691838260433080620759398, 2401593774673792297361446179037614006, 13601477343632400527767268213048769018, 77073779272885977020023254295915628266, 436971024085954796290610303307461466990, 2478653831690076100088720298283149489422, 14066584046529013725085103560520804574738, 79866310879834163229292594665706543602034, 453663534693850195686460667123382923500278, 2578058682623181189697966937739368886054694]
def cptF (c : List Int) (w : Nat) : Int := if w = 1 then 1 else c.getD w 0
def crowF (c : List Int) (w : Nat) : Int := cptF c w + c.getD w 0
def cwfF (c : List Int) (w f : Nat) : Int := cptF c f * crowF c (w - f)
def cBig (z : Int) : Prop := 0 ≤ z ∧ z < 2 ^ 200
theorem tab_len : tab.length = 61 := rfl
theorem tab_small : ∀ z ∈ tab, cBig z := by
  have h : (tab.all fun z => decide (0 ≤ z) && decide (z < 2 ^ 200)) = true := by decide +kernel
  intro z hz
  have := List.all_eq_true.mp h z hz
  simpa [cBig] using this
theorem tab_all : ((List.range 59).all fun n => tab.getD (n + 2) 0 == ((List.range (n + 1)).map fun i => cwfF tab (n + 2) (1 + i)).sum) = true := by decide +kernel
theorem both_all : ((List.range 60).all fun n => crowF tab (n + 1) == wtab.getD (n + 1) 0 && tab.getD (n + 1) 0 == (if n = 0 then 0 else wtab.getD (n + 1) 0 / 2)) = true := by decide +kernel
theorem tab_step {n : Nat} (h : n < 59) : tab.getD (n + 2) 0 = ((List.range (n + 1)).map fun i => cwfF tab (n + 2) (1 + i)).sum := by
  have := List.all_eq_true.mp tab_all n (List.mem_range.mpr h)
  simpa using this
theorem tab_both {m : Nat} (h1 : 1 ≤ m) (h2 : m ≤ 60) : crowF tab m = wtab.getD m 0 ∧ tab.getD m 0 = if m = 1 then 0 else wtab.getD m 0 / 2 := by
  have := List.all_eq_true.mp both_all (m - 1) (List.mem_range.mpr (by omega))
  rw [show m - 1 + 1 = m by omega] at this
  simp only [Bool.and_eq_true, beq_iff_eq] at this
  refine ⟨this.1, this.2.trans ?_⟩
  by_cases e : m = 1
  · rw [if_pos e, if_pos (by omega)]
  · rw [if_neg e, if_neg (by omega)]
theorem big_bits {z : Int} (h : cBig z) : Builtin.Int.intBits z ≤ 201 := by
  unfold Builtin.Int.intBits
  split
  · exact Nat.zero_le _
  · have h1 := h.1
    have h2 := h.2
    have hn : z.natAbs < 2 ^ 200 := by omega
    have : z.natAbs.log2 < 200 := by
      rcases Nat.eq_zero_or_pos z.natAbs with h0 | hp
      · rw [h0]; decide
      · exact (Nat.log2_lt (Nat.ne_of_gt hp)).mpr hn
    omega
theorem getD_take {c : List Int} {k w : Nat} (h : w < k) : (c.take k).getD w 0 = c.getD w 0 := by
  rw [List.getD_eq_getElem?_getD, List.getD_eq_getElem?_getD, List.getElem?_take_of_lt h]
theorem cpt_take {c : List Int} {k w : Nat} (h : w < k) : cptF (c.take k) w = cptF c w := by
  unfold cptF
  rw [getD_take h]
theorem cwf_take {c : List Int} {k w f : Nat} (h : f < k) (h2 : w - f < k) : cwfF (c.take k) w f = cwfF c w f := by
  unfold cwfF crowF
  rw [cpt_take h, cpt_take h2, getD_take h2]
theorem getD_at {c : List Int} {w : Nat} (h : w < c.length) : atI (c.map V.int) (w : Int) = some (V.int (c.getD w 0)) := by
  refine at_ints ?_
  rw [List.getD_eq_getElem?_getD, List.getElem?_eq_getElem h]
  rfl
theorem getD_memT {c : List Int} {w : Nat} (h : w < c.length) : c.getD w 0 ∈ c := by
  rw [List.getD_eq_getElem?_getD, List.getElem?_eq_getElem h]
  exact List.getElem_mem h
theorem take_snoc {c : List Int} {k : Nat} (h : k < c.length) : c.take (k + 1) = c.take k ++ [c.getD k 0] := by
  rw [List.take_succ, List.getElem?_eq_getElem h, List.getD_eq_getElem?_getD, List.getElem?_eq_getElem h]
  rfl
def spParts (K : PySem.W.Frag) : Sp := fun vs H Q _ => ∃ (l : Addr) (c : List Int) (w : Nat), vs = [.ref l, .int (w : Int)] ∧ SqL K H l (c.map V.int) ∧ w < c.length ∧ Q (.int (cptF c w)) H
def spRows (K : PySem.W.Frag) : Sp := fun vs H Q _ => ∃ (l : Addr) (c : List Int) (w : Nat), vs = [.ref l, .int (w : Int)] ∧ SqL K H l (c.map V.int) ∧ w < c.length ∧ Q (.int (crowF c w)) H
def spWithFirst (K : PySem.W.Frag) : Sp := fun vs H Q _ => ∃ (l : Addr) (c : List Int) (w f : Nat), vs = [.ref l, .int (w : Int), .int (f : Int)] ∧ SqL K H l (c.map V.int) ∧ f ≤ w ∧ f < c.length ∧ w - f < c.length ∧ (∀ z ∈ c, cBig z) ∧ Q (.int (cwfF c w f)) H
def spKinds : Sp := fun vs H Q _ => ∃ m : Nat, vs = [.int (m : Int)] ∧ 1 ≤ m ∧ m ≤ 60 ∧ ∀ (l : Addr) (H' : Hp), H l = none → H' l = some (.lst ((tab.take (m + 1)).map V.int)) → Same H H' → Q (.ref l) H'
def spHowMany (f : Nat → Int) : Sp := fun vs H Q _ => ∃ m : Nat, vs = [.int (m : Int)] ∧ 1 ≤ m ∧ m ≤ 60 ∧ ∀ H', Same H H' → Q (.int (f m)) H'
def spWholeI : Sp := fun vs H Q _ => ∃ i : Int, vs = [.int i] ∧ Q (.bl true) H
def spLawCounts : Sp := fun vs H Q _ => vs = [.int 60] ∧ ∀ (l : Addr) (H' : Hp), H l = none → H' l = some (.lst (wtab.map V.int)) → Same H H' → Q (.ref l) H'
end Tn
namespace L2
open PySem PySem.Spec PyProof.Rows
section
variable {prog : Program} {w : World} {A : Around} {E : Value → Shared → Prop} {s : Shared} {l : Addr} {xs : Array (Int × Tok)}
end
section
variable {X : Cx}
theorem extT (l : Addr) (items : Array Value) (n : Nat) (b : Addr) (items2 : Array Value) (n2 : Nat) (sl : Array (Option Value)) (h0 : ¬(!items.isEmpty && Builtin.List.listTooLong (items.size + items2.size)) = true) (h1 : items.size ≤ sizeLine) (h2 : items.size + items2.size ≤ sizeLine + 1) :
    Meets (Builtin.«list.extend» ⟨[.ref l, .ref b], []⟩) (fun _ R s => s.heap.get? l = some { cls := .type "list", dict := none, data := .seq items n, slots := #[] } ∧ s.heap.get? b = some { cls := .type "tuple", dict := none, data := .seq items2 n2, slots := sl } ∧
      R (.ok (.ret Value.none)) { s with heap := s.heap.update l (Obj.mapSeq fun x => x ++ items2), toks := s.toks }) := .of_wp fun prog w A R s h => by
  obtain ⟨hp, g, d, tk, os⟩ := s
  obtain ⟨hl, hb, h⟩ := h
  have f2 := AutoSeq1.sub_tuple_tuple
  have f3 := AutoSeq1.sub_list_list
  have f4 := AutoSeq1.sub_tuple_list; have f5 := AutoSeq1.sub_list_tuple
  have hz' : (items ++ items2).size ≤ sizeLine + 1 := by rw [Array.size_append]; exact h2
  wp_walk using (wpAny_updateSeq hl rfl (hz := h1) (_hz' := hz')), AutoSeq1.wpAny_loadPart' hl, AutoSeq1.wpAny_loadPart' hb
  exact ⟨_, rfl, h⟩
def rInsert : V → List V → Hp → VK → Prop := fun x vs H Q => ∃ (l : Addr) (xs : List V) (k : Nat) (y : V), x = .ref l ∧ vs = [.int (k : Int), y] ∧ H l = some (.lst xs) ∧ k ≤ xs.length ∧ xs.length < 1000000 ∧ Q .non (upd H l (.lst (xs.take k ++ [y] ++ xs.drop k)))
def rExtendT (K : PySem.W.Frag) : V → List V → Hp → VK → Prop := fun x vs H Q => ∃ l b xs zs, x = .ref l ∧ vs = [.ref b] ∧ H l = some (.lst xs) ∧ H b = some (.tup zs) ∧ xs.length + zs.length ≤ sizeLine ∧ Q .non (upd H l (.lst (xs ++ zs)))
theorem mt_extendT : MtM X "list.extend" (rExtendT X.K) := by
  intro pins s σ H x vs v us Q I rx rv h
  obtain ⟨l, b, xs, zs, rfl, rfl, hH, hB, hz, q⟩ := h
  cases rx
  obtain ⟨u, rfl, ru⟩ := rv.one
  cases ru
  obtain ⟨z, its, n, r, hl, e⟩ := I.lstM hH
  obtain ⟨z2, its2, r2, ⟨cls, dd, data, sl⟩, e2, hc, ⟨n2, hd⟩, hdd⟩ := I.hok b _ hB
  have hl2 := r2.length
  have hsz : its.toArray.size + its2.toArray.size ≤ sizeLine := by rw [List.size_toArray, List.size_toArray]; omega
  have hlong : ¬ (!its.toArray.isEmpty && Builtin.List.listTooLong (its.toArray.size + its2.toArray.size)) = true := by rw [notLongL hsz, Bool.and_false]; exact Bool.false_ne_true
  simp only at hc hd hdd
  subst hc hd hdd
  refine call_meets F.slot_list_extend ⟨_, e, rfl⟩ F.entry_list_extend (F.args_list_extend_2 _ _) (extT l its.toArray n b its2.toArray n2 sl hlong (by rw [List.size_toArray]; omega) (by omega)) ⟨e, e2, ?_⟩
  refine ⟨.non, _, I.lset (its' := its ++ its2) hH e (by simp) (r.append r2) ?_, rfl, q⟩
  rw [List.length_append]
  omega
inductive DEq (K : PySem.W.Frag) (H : Hp) : Nat → V → V → Bool → Prop where
  | flat {d : Nat} {x y : V} (hx : flatV x = true) (hy : flatV y = true) : DEq K H d x y (eqV x y)
  | same {d : Nat} {a : Addr} : DEq K H d (.ref a) (.ref a) true
  | tup {d : Nat} {a b : Addr} {xs ys : List V} {e : Nat → Bool} (hab : a ≠ b) (ha : SqT K H a xs) (hb : SqT K H b ys) (he : ∀ j x y, xs[j]? = some x → ys[j]? = some y → DEq K H d x y (e j)) : DEq K H (d + 1) (.ref a) (.ref b) ((List.range (min xs.length ys.length)).all e && xs.length == ys.length)
  | tupStr {d : Nat} {a : Addr} {xs : List V} {z : Str} (ha : SqT K H a xs) : DEq K H (d + 1) (.ref a) (.str z) false
def rEqD (K : PySem.W.Frag) : R2 := fun x y H Q => ∃ (a b : Addr) (xs ys : List V) (e : Nat → Bool), x = .ref a ∧ y = .ref b ∧ SqT K H a xs ∧ SqT K H b ys ∧ (∀ j x y, xs[j]? = some x → ys[j]? = some y → DEq K H 40 x y (e j)) ∧ Q (.bl ((List.range (min xs.length ys.length)).all e && xs.length == ys.length)) H
def rEqB (K : PySem.W.Frag) (neg : Bool) : R2 := fun x y H Q => ∃ z : Str, y = .str z ∧ ((x = .non ∧ Q (.bl neg) H) ∨ (∃ a xs, x = .ref a ∧ SqT K H a xs ∧ Q (.bl neg) H) ∨ ∃ u, x = .str u ∧ Q (.bl (if neg then !decide (V.str u = V.str z) else decide (V.str u = V.str z))) H)
end
end L2
namespace Tn
def mx2 (i j : Int) : Int := if j > i then j else i
def mn2 (i j : Int) : Int := if j < i then j else i
def mxL (l : List Int) : Int := l.foldl mx2 (-1)
def mnL (n : Int) (l : List Int) : Int := l.foldl mn2 n
def upB (ord : List Int) (p : Nat) : Bool := (ord.take p).all fun w => decide (w < (p : Int))
def dnB (ord : List Int) (p : Nat) : Bool := (ord.take p).all fun w => decide ((ord.length : Int) - (p : Int) ≤ w)
def negO (ord : List Int) : List Int := ord.map fun w => (ord.length : Int) - 1 - w
def places (ord : List Int) (q : Nat → Bool) (k : Nat) : List Nat := ((List.range k).map (· + 1)).filter q
def risF (ord : List Int) : List Nat := places ord (upB ord) (ord.length - 1)
def falF (ord : List Int) : List Nat := places ord (dnB ord) (ord.length - 1)
end Tn
namespace Tn
def RiseAt (l : List Int) (p : Nat) : Prop := ∀ a ∈ l.take p, ∀ b ∈ l.drop p, a < b
def FallAt (l : List Int) (p : Nat) : Prop := ∀ a ∈ l.take p, ∀ b ∈ l.drop p, b < a
def Bar1 (w x y z : Int) : Prop := y < w ∧ w < z ∧ z < x
def Bar2 (w x y z : Int) : Prop := x < z ∧ z < w ∧ w < y
def HasBar (l : List Int) : Prop := ∃ (i j k m : Nat) (w x y z : Int), i < j ∧ j < k ∧ k < m ∧ l[i]? = some w ∧ l[j]? = some x ∧ l[k]? = some y ∧ l[m]? = some z ∧ (Bar1 w x y z ∨ Bar2 w x y z)
end Tn
namespace L2
open PySem PySem.Spec PyProof.Rows
section
variable {X : Cx}
end
end L2
namespace Tn
open PySem L2
mutual
def rowN : Nest → Int → List Int
  | .word, f => [f]
  | .knot k ps, f => (if k then rowsN ps f else (rowsN ps f).reverse).flatten
  | .bad, _ => []
def rowsN : List Nest → Int → List (List Int)
  | [], _ => []
  | n :: r, f => rowN n f :: rowsN r (f + ((rowN n f).length : Int))
end
theorem flat_rev_perm (l : List (List Int)) : l.reverse.flatten.Perm l.flatten := by
  induction l with
  | nil => exact .refl _
  | cons a l ih =>
    rw [List.reverse_cons, List.flatten_append, List.flatten_cons, List.flatten_cons, List.flatten_nil, List.append_nil]
    exact List.perm_append_comm.trans (List.Perm.append_left a ih)
def fromTo (f : Int) (n : Nat) : List Int := (upto n).map fun z => f + z
theorem fromTo_add (f : Int) (a b : Nat) : fromTo f (a + b) = fromTo f a ++ fromTo (f + (a : Int)) b := by
  unfold fromTo upto
  rw [List.range_add, List.map_append, List.map_append, List.map_map, List.map_map, List.map_map, List.map_map]
  congr 1
  apply List.map_congr_left
  intro i _
  show f + ((a + i : Nat) : Int) = f + (a : Int) + (i : Int)
  omega
mutual
theorem row_perm : ∀ (n : Nest) (o : Option Bool) (f : Int), valid o n = true → (rowN n f).Perm (fromTo f (words n))
  | .word, _, f, _ => by
    rw [rowN, words]
    show [f].Perm [f + 0]
    rw [Int.add_zero]
  | .knot k ps, o, f, h => by
    have hv : validL k ps = true := by simp only [valid, Bool.and_eq_true] at h; exact h.2
    have ih := rows_perm ps k f hv
    rw [rowN, words]
    cases k
    · exact (flat_rev_perm _).trans ih
    · exact ih
  | .bad, _, _, h => by simp [valid] at h
theorem rows_perm : ∀ (ps : List Nest) (k : Bool) (f : Int), validL k ps = true → (rowsN ps f).flatten.Perm (fromTo f (wordsL ps))
  | [], _, f, _ => by rw [rowsN, wordsL]; exact .refl _
  | n :: r, k, f, h => by
    simp only [validL, Bool.and_eq_true] at h
    have h1 := row_perm n (some k) f h.1
    have hl : (rowN n f).length = words n := by rw [h1.length_eq]; simp [fromTo, upto]
    have h2 := rows_perm r k (f + ((rowN n f).length : Int)) h.2
    rw [rowsN, wordsL, List.flatten_cons, fromTo_add]
    rw [hl] at h2 ⊢
    exact h1.append h2
end
theorem row_len {n : Nest} {o : Option Bool} (f : Int) (h : valid o n = true) : (rowN n f).length = words n := by
  rw [(row_perm n o f h).length_eq]; simp [fromTo, upto]
def spRow (K : PySem.W.Frag) (d : Nat) : Sp := fun vs H Q _ => ∃ (v : V) (n : Nest) (o : Option Bool) (f : Int), vs = [v, .int f] ∧ NestAt K H n v ∧ valid o n = true ∧ depthN n < d ∧ words n ≤ 1000 ∧ ∀ (p : Addr) (H' : Hp), H p = none → H' p = some (.lst ((rowN n f).map V.int)) → Same H H' → Q (.ref p) H'
def partsOf (k : Bool) : Nest → List Nest
  | .knot k' ps => if k' = k then ps else [.knot k' ps]
  | n => [n]
def spJoin (K : PySem.W.Frag) : Sp := fun vs H Q _ => ∃ (k : Bool) (x y : V) (m n : Nest), vs = [.str (kS k), x, y] ∧ NestAt K H m x ∧ NestAt K H n y ∧ valid none m = true ∧ valid none n = true ∧ words m + words n ≤ 900 ∧ ∀ (v : V) (H' : Hp), NestAt K H' (.knot k (partsOf k m ++ partsOf k n)) v → Same H H' → Q v H'
theorem valid_some {k : Bool} : ∀ {n : Nest}, valid none n = true → (∀ ps, n ≠ .knot k ps) → valid (some k) n = true
  | .word, _, _ => rfl
  | .knot k' ps, h, hn => by
    simp only [valid, Bool.and_eq_true] at h ⊢
    refine ⟨?_, h.2⟩
    have : k' ≠ k := fun e => hn ps (by rw [e])
    simp [this.symm, Ne.symm this]
  | .bad, h, _ => by simp [valid] at h
theorem parts_valid {k : Bool} {n : Nest} (h : valid none n = true) : validL k (partsOf k n) = true ∧ wordsL (partsOf k n) = words n := by
  cases n with
  | word => exact ⟨rfl, rfl⟩
  | bad => simp [valid] at h
  | knot k' ps =>
    unfold partsOf
    by_cases e : k' = k
    · subst e
      dsimp only
      rw [if_pos rfl]
      simp only [valid, Bool.and_eq_true] at h
      exact ⟨h.2, by rw [words]⟩
    · dsimp only
      rw [if_neg e]
      refine ⟨?_, by simp [wordsL]⟩
      simp only [validL, Bool.and_true]
      exact valid_some h fun ps' z => e (by injection z)
theorem join_valid {k : Bool} {m n : Nest} (hm : valid none m = true) (hn : valid none n = true) : valid none (.knot k (partsOf k m ++ partsOf k n)) = true ∧ words (.knot k (partsOf k m ++ partsOf k n)) = words m + words n := by
  have h1 := parts_valid (k := k) hm
  have h2 := parts_valid (k := k) hn
  constructor
  · simp only [valid, validL_app, h1.1, h2.1]
    simp
  · rw [words, wordsL_app, h1.2, h2.2]
def spLNest (K : PySem.W.Frag) : Sp := fun vs H Q _ => ∃ (l : Addr) (cs : List Int), vs = [.ref l] ∧ SqL K H l (cs.map V.int) ∧ cs.length ≤ 100 ∧ ∀ (n : Nest) (v : V) (H' : Hp), NestAt K H' n v → valid none n = true → words n = cs.length + 1 → Same H H' → Q v H'
def spFree (K : PySem.W.Frag) : Sp := fun vs H Q _ => ∃ (l : Addr) (cs : List Int), vs = [.ref l] ∧ SqL K H l (cs.map V.int) ∧ 1 ≤ cs.length ∧ cs.length ≤ 100 ∧ ∀ (p : Addr) (ord : List Int) (H' : Hp), H p = none → H' p = some (.lst (ord.map V.int)) → IsOrd ord → ord.length = cs.length → Same H H' → Q (.ref p) H'
def spLOrd (K : PySem.W.Frag) : Sp := fun vs H Q _ => ∃ (a : Addr) (ns : List Int), vs = [.ref a] ∧ SqL K H a (ns.map V.int) ∧ ns.length ≤ 63 ∧ ∀ (p : Addr) (ord : List Int) (H' : Hp), H p = none → H' p = some (.tup (ord.map V.int)) → IsOrd ord → 1 ≤ ord.length → ord.length ≤ 60 → Same H H' → Q (.ref p) H'
theorem pick2 {j : Int} (h : j = 0 ∨ j = 1) : ∃ c, atI (Str.ofString "+-").cps.toList j = some c ∧ (⟨#[c]⟩ : Str) = kS (decide (j = 0)) := by
  rcases h with rfl | rfl
  · exact ⟨43, by decide +kernel, by decide +kernel⟩
  · exact ⟨45, by decide +kernel, by decide +kernel⟩
def LstsAt (H : Hp) (ps : List Addr) (xss : List (List Int)) : Prop := Paired (fun p xs => H p = some (.lst (xs.map V.int))) ps xss
theorem LstsAt.len {H : Hp} : ∀ {ps : List Addr} {xss : List (List Int)}, LstsAt H ps xss → ps.length = xss.length
  | _, _, .nil => rfl
  | _, _, .cons _ t => congrArg (· + 1) (LstsAt.len t)
theorem LstsAt.get {H : Hp} : ∀ {ps : List Addr} {xss : List (List Int)} {i : Nat} {p : Addr}, LstsAt H ps xss → ps[i]? = some p → ∃ xs, xss[i]? = some xs ∧ H p = some (.lst (xs.map V.int))
  | _, _, _, _, .nil, e => by simp at e
  | _, _, 0, _, .cons h _, e => by simp at e; subst e; exact ⟨_, rfl, h⟩
  | _, _, i + 1, p, .cons _ t, e => by
    obtain ⟨x, h1, h2⟩ := LstsAt.get (i := i) (p := p) t (by simpa using e)
    exact ⟨x, by simpa using h1, h2⟩
theorem LstsAt.mono {H H' : Hp} (s : Same H H') : ∀ {ps : List Addr} {xss : List (List Int)}, LstsAt H ps xss → LstsAt H' ps xss
  | _, _, .nil => .nil
  | _, _, .cons h t => .cons (s _ _ h) (LstsAt.mono s t)
theorem LstsAt.upd {H : Hp} {l : Addr} {o : HO} : ∀ {ps : List Addr} {xss : List (List Int)}, l ∉ ps → LstsAt H ps xss → LstsAt (L2.upd H l o) ps xss
  | _, _, _, .nil => .nil
  | p :: _, _ :: _, hn, .cons h t => .cons (by rw [upd_ne (fun z => hn (by rw [← z]; exact List.mem_cons_self))]; exact h) (LstsAt.upd (fun z => hn (List.mem_cons_of_mem _ z)) t)
theorem LstsAt.app {H : Hp} : ∀ {ps qs : List Addr} {xss yss : List (List Int)}, LstsAt H ps xss → LstsAt H qs yss → LstsAt H (ps ++ qs) (xss ++ yss)
  | _, _, _, _, .nil, h => h
  | _, _, _, _, .cons a t, h => .cons a (LstsAt.app t h)
theorem LstsAt.rev {H : Hp} : ∀ {ps : List Addr} {xss : List (List Int)}, LstsAt H ps xss → LstsAt H ps.reverse xss.reverse
  | _, _, .nil => .nil
  | _, _, .cons a t => by
    rw [List.reverse_cons, List.reverse_cons]
    exact LstsAt.app (LstsAt.rev t) (.cons a .nil)
theorem flat_le {xss : List (List Int)} {i : Nat} {x : List Int} (h : xss[i]? = some x) : x.length ≤ xss.flatten.length ∧ (xss.take i).flatten.length ≤ xss.flatten.length := by
  have hi := (List.getElem?_eq_some_iff.mp h)
  have e : xss = xss.take i ++ x :: xss.drop (i + 1) := by
    rw [← hi.2, ← List.drop_eq_getElem_cons hi.1, List.take_append_drop]
  constructor
  · conv => rhs; rw [e]
    rw [List.flatten_append, List.flatten_cons]
    simp only [List.length_append]
    omega
  · conv => rhs; rw [e]
    rw [List.flatten_append]
    simp only [List.length_append]
    omega
theorem wordsL_at : ∀ {ps : List Nest} {i : Nat} {n : Nest}, ps[i]? = some n → words n ≤ wordsL ps
  | [], _, _, h => by simp at h
  | m :: r, 0, n, h => by simp at h; subst h; rw [wordsL]; omega
  | m :: r, i + 1, n, h => by have := wordsL_at (ps := r) (i := i) (n := n) (by simpa using h); rw [wordsL]; omega
theorem nests_take {K : PySem.W.Frag} {H : Hp} : ∀ {ns : List Nest} {vs : List V} (k : Nat), NestsAt K H ns vs → NestsAt K H (ns.take k) (vs.take k)
  | _, _, 0, _ => by rw [List.take_zero, List.take_zero]; rfl
  | [], _, k + 1, h => by have h : _ = [] := h; rw [h]; rfl
  | n :: r, _, k + 1, ⟨v, vr, e, h1, h2⟩ => by rw [e]; exact ⟨v, vr.take k, rfl, h1, nests_take k h2⟩
theorem nests_drop {K : PySem.W.Frag} {H : Hp} : ∀ {ns : List Nest} {vs : List V} (k : Nat), NestsAt K H ns vs → NestsAt K H (ns.drop k) (vs.drop k)
  | _, _, 0, h => h
  | [], _, k + 1, h => by have h : _ = [] := h; rw [h]; rfl
  | n :: r, _, k + 1, ⟨v, vr, e, h1, h2⟩ => by rw [e]; exact nests_drop k h2
theorem cutN_head (xs : List V) (k : Nat) (h : k ≤ xs.length) : cutV xs none (some (k : Int)) = xs.take k := by
  unfold cutV
  rw [HT.sIx_none, HT.sIx_nat, Nat.min_eq_left h]
  simp
theorem cutN_tail (xs : List V) (k : Nat) (h : k ≤ xs.length) : cutV xs (some (k : Int)) none = xs.drop k := by
  unfold cutV
  rw [HT.sIx_none, HT.sIx_nat, Nat.min_eq_left h, List.take_of_length_le (by simp)]
def natV (l : List Nat) : List V := l.map fun (n : Nat) => V.int (n : Int)
def cutF (ord : List Int) : Str × List Nat := if risF ord = [] then (if falF ord = [] then ("", []) else ("-", falF ord)) else ("+", risF ord)
def CutAt (H : Hp) (c : Str × List Nat) (t p : Addr) : Prop := H t = some (.tup [.str c.1, .ref p]) ∧ H p = some (.tup (natV c.2))
def spCuts (K : PySem.W.Frag) : Sp := fun vs H Q _ => ∃ (o : Addr) (ord : List Int), vs = [.ref o] ∧ SqT K H o (ord.map V.int) ∧ IsOrd ord ∧ 1 ≤ ord.length ∧ ord.length ≤ 1000 ∧ ∀ (t p : Addr) (H' : Hp), H t = none → H p = none → CutAt H' (cutF ord) t p → Same H H' → Q (.ref t) H'
def spTold21 (K : PySem.W.Frag) : Sp := fun vs H Q _ => ∃ (o : Addr) (ord : List Int), vs = [.ref o] ∧ SqT K H o (ord.map V.int) ∧ IsOrd ord ∧ 1 ≤ ord.length ∧ ord.length ≤ 1000 ∧ ∀ H', Same H H' → Q (.bl true) H'
end Tn
namespace L2
open PySem PySem.Spec PyProof.Rows
def cSt2 (σ : St) (js : List Nat) : St := none :: none :: js.map fun j => (σ[j]?).getD none
structure CScope2 (S scope : Scope) (x x2 : Str) (N : List Str) (P : List Str) (js : List Nat) : Prop where
  kind : scope.kind = .function
  nocell : ∀ y ∈ scope.names, y.2 ≠ .cell
  loc : ∀ y ∈ scope.names, y.2 = .local → scope.names.lookup y.1 = some .local
  free : ∀ y ∈ scope.names, y.2 = .free → S.names.lookup y.1 = some .cell ∨ S.names.lookup y.1 = some .free
  own : scope.names.lookup x = some .local
  own2 : scope.names.lookup x2 = some .local
  nd : N.Nodup
  hd : N = x :: x2 :: (js.map fun j => (P[j]?).getD x)
  fr : ∀ j ∈ js, ∃ y, P[j]? = some y ∧ scope.names.lookup y = some .free
def csB2 (S scope : Scope) (x x2 : Str) (N P : List Str) (js : List Nat) : Bool :=
  (scope.kind == .function) && scope.names.all (fun y => !(y.2 == .cell)) && scope.names.all (fun y => !(y.2 == .local) || scope.names.lookup y.1 == some .local) &&
  scope.names.all (fun y => !(y.2 == .free) || (S.names.lookup y.1 == some .cell || S.names.lookup y.1 == some .free)) && (scope.names.lookup x == some .local) && (scope.names.lookup x2 == some .local) && decide N.Nodup && (N == x :: x2 :: (js.map fun j => (P[j]?).getD x)) &&
  js.all (fun j => match P[j]? with | some y => scope.names.lookup y == some .free | none => false)
section
variable {X : Cx} {pins : List (Addr × Obj)} {σ : St} {H : Hp} {s : Shared} {scope S : Scope} {cl : List (Str × Addr)} {C : Addr} {N : List Str} {fp : List Addr} {x x2 : Str} {js : List Nat}
end
section
variable {X : Cx} {pins : List (Addr × Obj)} {σ : St} {H : Hp} {s : Shared} {scope S : Scope} {cl : List (Str × Addr)} {N : List Str} {fp : List Addr} {x x2 : Str} {js : List Nat}
def CompW2 (J : It) (g : TG) (tc : TT) (te : TE) (js : List Nat) (σ : St) (H1 : Hp) (Q : VK) (D : Addr) : Prop :=
  ∃ W : Nat → Nat → List V → St → Hp → Prop, (∃ m, W 0 m [] (cSt2 σ js) (upd H1 D (.lst []))) ∧ ∀ i m acc σ' H', W i m acc σ' H' → H' D = some (.lst acc) ∧
    ((J.stop i H' ∧ Q (.ref D) H') ∨ (J.go i H' ∧ acc.length < sizeLine ∧ ∀ y H2, J.yld i H' y H2 → g y σ' H2 fun σ3 H3 => tc σ3 H3 fun b H4 =>
      if b = true then te σ3 H4 fun z H5 => H5 D = some (.lst acc) ∧ ∃ m', m' < m ∧ W (i + 1) m' (acc ++ [z]) σ3 (upd H5 D (.lst (acc ++ [z])))
      else ∃ m', m' < m ∧ W (i + 1) m' acc σ3 H4))
def tComp2 (wi : TI) (g : TG) (tc : TT) (te : TE) (js : List Nat) : TE := fun σ H Q => wi σ H fun J H1 => ∀ D, H1 D = none → CompW2 J g tc te js σ H1 Q D
variable {elt iter tg : Expr} {ifs : List Expr} {pos : Pos} {wi : TI} {g : TG} {tc : TT} {te : TE}
end
end L2
namespace Tn
open PySem PySem.Spec PyProof.Rows
section
variable {prog : Program} {w : World} {A : Around} {E : Value → Shared → Prop} {s : Shared} {n : Nat} {t1 t2 : Addr} {k : Nat} {xs ys : Array Value} {x y a b : Value}
end
def zA (h : Heap) (t1 : Addr) : Heap := h.push { cls := .type "tuple_iterator", data := .fields #[.ref t1, .int 0 0] }
def zB (h : Heap) (t1 t2 : Addr) : Heap := (zA h t1).push { cls := .type "tuple_iterator", data := .fields #[.ref t2, .int 0 0] }
def zC (h : Heap) (t1 t2 : Addr) : Heap := ((zB h t1 t2).push { cls := .type "tuple", data := .seq #[.ref h.objs.size, .ref (zA h t1).objs.size] }).push { cls := .type "tuple", data := .seq #[.none, .none] }
end Tn
namespace L2
open PySem PySem.Spec PyProof.Rows
def Itz (a b : Addr) : It :=
  ⟨fun i H => ∃ xs ys x y, H a = some (.tup xs) ∧ H b = some (.tup ys) ∧ xs[i]? = some x ∧ ys[i]? = some y,
   fun i H v H' => ∃ p x y, H p = none ∧ v = .ref p ∧ (∀ xs, H a = some (.tup xs) → xs[i]? = some x) ∧ (∀ ys, H b = some (.tup ys) → ys[i]? = some y) ∧ H' = upd H p (.tup [x, y]),
   fun i H => ∃ xs ys, H a = some (.tup xs) ∧ H b = some (.tup ys) ∧ xs.length = i⟩
section
variable {X : Cx}
def iZip (ta : TA) : TI := fun σ H R => ta σ H fun vs H1 => ∃ a b xs ys, vs = [.ref a, .ref b] ∧ H1 a = some (.tup xs) ∧ H1 b = some (.tup ys) ∧ R (Itz a b) H1
end
end L2
namespace L2
open PySem
def rLstOf (K : PySem.W.Frag) : List V → Hp → VK → Prop := fun xs H Q => ∃ p ys, xs = [.ref p] ∧ (SqL K H p ys ∨ SqT K H p ys) ∧ ∀ l, H l = none → Q (.ref l) (upd H l (.lst ys))
end L2
namespace Tn
open PySem L2
def allO {α : Type} : List (Option α) → Option (List α)
  | [] => some []
  | none :: _ => none
  | some a :: r => (allO r).map (a :: ·)
def firstsF (ps : List Nat) : List Nat := 0 :: ps
def behindsF (n : Nat) (ps : List Nat) : List Nat := ps ++ [n]
def stretchF (ord : List Int) (ps : List Nat) : List (List Int) := ((firstsF ps).zip (behindsF ord.length ps)).map fun ab => (ord.drop ab.1).take (ab.2 - ab.1)
def nestF : Nat → List Int → Option Nest
  | 0, _ => none
  | d + 1, ord => if ord.length = 1 then some .word else if (cutF ord).2 = [] then none else
    (allO ((stretchF ord (cutF ord).2).map fun b => nestF d (leftF ord b))).map fun ns => if (cutF ord).1 = kS false then .knot false ns.reverse else .knot true ns
def Asc (n : Nat) (ps : List Nat) : Prop := ps.Pairwise (· < ·) ∧ ∀ p ∈ ps, 1 ≤ p ∧ p < n
def barS : Str := "barred"
def TellsN (K : PySem.W.Frag) (H : Hp) (o : Option Nest) (v : V) : Prop := match o with
  | some n => NestAt K H n v
  | none => v = .str barS
def spStretch (K : PySem.W.Frag) : Sp := fun vs H Q _ => ∃ (o p : Addr) (ord : List Int) (ps : List Nat), vs = [.ref o, .ref p] ∧ SqT K H o (ord.map V.int) ∧ H p = some (.tup (natV ps)) ∧ Asc ord.length ps ∧ ps ≠ [] ∧ 1 ≤ ord.length ∧ ord.length ≤ 900 ∧
  ∀ (q : Addr) (qs : List Addr) (H' : Hp), H q = none → (∀ x ∈ qs, H x = none) → H' q = some (.lst (qs.map V.ref)) → LstsAt H' qs (stretchF ord ps) → Same H H' → Q (.ref q) H'
def spNestOf (K : PySem.W.Frag) (d : Nat) : Sp := fun vs H Q _ => ∃ (o : Addr) (ord : List Int), vs = [.ref o] ∧ SqT K H o (ord.map V.int) ∧ IsOrd ord ∧ 1 ≤ ord.length ∧ ord.length ≤ 60 ∧ ord.length ≤ d ∧ ∀ (v : V) (H' : Hp), TellsN K H' (nestF d ord) v → Same H H' → Q v H'
end Tn
namespace Tn
open PySem L2
mutual
def fit : Nest → Bool
  | .word => true
  | .knot _ ps => decide (2 ≤ ps.length) && fitL ps
  | .bad => false
def fitL : List Nest → Bool
  | [] => true
  | n :: r => fit n && fitL r
end
mutual
theorem NestAt.fit {K : PySem.W.Frag} {H : Hp} : ∀ {n : Nest} {o : Option Bool} {v : V}, NestAt K H n v → valid o n = true → Tn.fit n = true
  | .word, _, _, _, _ => rfl
  | .knot k ps, _, _, ⟨a, b, vs, _, _, _, h2, _, h5⟩, hv => by
    have hvl : validL k ps = true := by simp only [valid, Bool.and_eq_true] at hv; exact hv.2
    have hl := h5.len
    rw [Tn.fit, NestsAt.fit h5 hvl, decide_eq_true (by omega)]
    rfl
  | .bad, _, _, _, hv => by simp [valid] at hv
theorem NestsAt.fit {K : PySem.W.Frag} {H : Hp} : ∀ {ps : List Nest} {k : Bool} {vs : List V}, NestsAt K H ps vs → validL k ps = true → fitL ps = true
  | [], _, _, _, _ => rfl
  | n :: r, k, _, ⟨v, vr, _, h1, h2⟩, hv => by
    simp only [validL, Bool.and_eq_true] at hv
    rw [fitL, NestAt.fit h1 hv.1, NestsAt.fit h2 hv.2]
    rfl
end
theorem fitL_mem : ∀ {ps : List Nest} {n : Nest}, fitL ps = true → n ∈ ps → fit n = true
  | _ :: r, n, h, hm => by
    rw [fitL, Bool.and_eq_true] at h
    rcases List.mem_cons.mp hm with rfl | hm
    · exact h.1
    · exact fitL_mem h.2 hm
theorem words_fit : ∀ {n : Nest}, fit n = true → 1 ≤ words n
  | .word, _ => Nat.le_refl _
  | .knot _ ps, h => by
    rw [fit, Bool.and_eq_true, decide_eq_true_eq] at h
    match ps, h with
    | n :: r, h =>
      have h2 := h.2
      rw [fitL, Bool.and_eq_true] at h2
      have := words_fit h2.1
      rw [words, wordsL]
      omega
  | .bad, h => by simp [fit] at h
theorem wordsL_fit : ∀ {ps : List Nest}, fitL ps = true → ps.length ≤ wordsL ps
  | [], _ => Nat.zero_le _
  | n :: r, h => by
    rw [fitL, Bool.and_eq_true] at h
    have := words_fit h.1
    have := wordsL_fit h.2
    rw [wordsL, List.length_cons]
    omega
def Rk (k : Bool) (a b : Int) : Prop := if k then a < b else b < a
def Apart (k : Bool) (x y : List Int) : Prop := ∀ a ∈ x, ∀ b ∈ y, Rk k a b
def seenB (k : Bool) (rs : List (List Int)) : List (List Int) := if k then rs else rs.reverse
structure Blocks (k : Bool) (bs : List (List Int)) : Prop where
  two : 2 ≤ bs.length
  ne : ∀ x ∈ bs, x ≠ []
  ap : bs.Pairwise (Apart k)
def bordF : Nat → List (List Int) → List Nat
  | _, [] => []
  | _, [_] => []
  | a, b :: c :: r => (a + b.length) :: bordF (a + b.length) (c :: r)
def cutB (k : Bool) (ord : List Int) : Nat → Bool := if k then upB ord else dnB ord
end Tn
namespace Tn
open PySem L2
def PairsAt (K : PySem.W.Frag) (H : Hp) (qs : List Addr) (ns : List Nest) : Prop := Paired (fun q n => ∃ x y, H q = some (.tup [x, y]) ∧ NestAt K H n x ∧ NestAt K H n y) qs ns
def sizeS (ns : List Nest) : Nat := (ns.map sizeN).sum
def spAlike (K : PySem.W.Frag) : Sp := fun vs H Q _ => ∃ (x y : V) (n : Nest), vs = [x, y] ∧ NestAt K H n x ∧ NestAt K H n y ∧ Tn.fit n = true ∧ sizeN n ≤ 900 ∧ ∀ H', Same H H' → Q (.bl true) H'
def rSumL (K : PySem.W.Frag) : List V → Hp → VK → Prop := fun vs H Q => ∃ (p : Addr) (ns : List Int), vs = [.ref p] ∧ SqL K H p (ns.map V.int) ∧ Q (.int ns.sum) H
end Tn
namespace Tn
open PySem L2
mutual
def LAt (H : Hp) : Nest → V → Prop
  | .word, v => v = .non
  | .knot _ ps, v => ∃ a vs, v = .ref a ∧ H a = some (.lst vs) ∧ 2 ≤ vs.length ∧ vs.length ≤ 1000 ∧ LsAt H ps vs
  | .bad, _ => False
def LsAt (H : Hp) : List Nest → List V → Prop
  | [], vs => vs = []
  | n :: r, vs => ∃ v vr, vs = v :: vr ∧ LAt H n v ∧ LsAt H r vr
end
mutual
def kindN : Bool → Nest → Nest
  | _, .word => .word
  | k, .knot _ ps => .knot k (kindL (!k) ps)
  | _, .bad => .bad
def kindL : Bool → List Nest → List Nest
  | _, [] => []
  | k, n :: r => kindN k n :: kindL k r
end
def spClosed (K : PySem.W.Frag) : Sp := fun vs H Q _ => ∃ (pl A B : Addr) (As : List Addr) (us xs : List V), vs = [.ref pl] ∧ H pl = some (.lst ((As ++ [B, A]).map V.ref)) ∧ H A = some (.lst xs) ∧ H B = some (.lst us) ∧ A ≠ B ∧ A ≠ pl ∧ B ≠ pl ∧ us.length ≤ 900 ∧ As.length ≤ 900 ∧
  (xs = [] → Q .non (upd H pl (.lst ((As ++ [B]).map V.ref)))) ∧ (∀ x, xs = [x] → Q .non (upd (upd H pl (.lst ((As ++ [B]).map V.ref))) B (.lst (us ++ [x])))) ∧ (2 ≤ xs.length → Q .non (upd (upd H pl (.lst ((As ++ [B]).map V.ref))) B (.lst (us ++ [.ref A]))))
def spLists (K : PySem.W.Frag) : Sp := fun vs H Q _ => ∃ (l : Addr) (cs : List Int), vs = [.ref l] ∧ SqL K H l (cs.map V.int) ∧ cs.length ≤ 100 ∧ ∀ (A : Addr) (ts : List Nest) (us : List V) (H' : Hp), H' A = some (.lst us) → LsAt H' ts us → wordsL ts ≤ cs.length → Same H H' → Q (.ref A) H'
def spKinded (K : PySem.W.Frag) (d : Nat) : Sp := fun vs H Q _ => ∃ (v : V) (n : Nest) (k : Bool), vs = [v, .str (kS k)] ∧ LAt H n v ∧ depthN n < d ∧ words n ≤ 100 ∧ ∀ (v' : V) (H' : Hp), NestAt K H' (kindN k n) v' → Same H H' → Q v' H'
def spNestL (K : PySem.W.Frag) : Sp := fun vs H Q _ => ∃ (l : Addr) (cs : List Int) (y : Int), vs = [.ref l, .int y] ∧ SqL K H l (cs.map V.int) ∧ cs.length ≤ 60 ∧ ∀ (n : Nest) (v : V) (H' : Hp), NestAt K H' n v → valid none n = true → words n ≤ 60 → (words n = 1 ∨ words n ≤ cs.length) → Same H H' → Q v H'
def spIsN (K : PySem.W.Frag) (d : Nat) : Sp := fun vs H Q _ => ∃ (v : V) (n : Nest) (o : Option Bool), vs = [v] ∧ NestAt K H n v ∧ valid o n = true ∧ depthN n < d ∧ ∀ H', Same H H' → Q (.bl true) H'
def refsO (st : List (Addr × List Nest)) : List V := (st.reverse.map fun x => V.ref x.1)
structure OpenAt (C H : Hp) (pl : Addr) (st : List (Addr × List Nest)) : Prop where
  sm : Same C H
  np : C pl = none
  hp : H pl = some (.lst (refsO st))
  nd : (st.map Prod.fst).Nodup
  npl : pl ∉ st.map Prod.fst
  pr : ∀ x ∈ st, C x.1 = none ∧ ∃ us, H x.1 = some (.lst us) ∧ LsAt C x.2 us
def wsum (st : List (Addr × List Nest)) : Nat := (st.map fun x => wordsL x.2).sum
section
variable {C H : Hp} {pl A B : Addr} {ts us : List Nest} {r st : List (Addr × List Nest)}
end
mutual
def backN : Nest → Nest
  | .word => .word
  | .knot k ps => .knot k (if k then backL ps else (backL ps).reverse)
  | .bad => .bad
def backL : List Nest → List Nest
  | [] => []
  | n :: r => backN n :: backL r
end
mutual
def mirN : Nest → Nest
  | .word => .word
  | .knot k ps => .knot (!k) (mirL ps)
  | .bad => .bad
def mirL : List Nest → List Nest
  | [] => []
  | n :: r => mirN n :: mirL r
end
def Inv2 (xs : List Int) (f : Int) (ys : List Int) (g : Int) : Prop := xs.length = ys.length ∧ ∀ (i : Nat) (w : Int), xs[i]? = some w → ∃ u : Nat, w = f + (u : Int) ∧ ys[u]? = some (g + (i : Int))
end Tn
namespace L2
open PySem PySem.Spec PyProof PyProof.Rows Tn
def rNeN (K : PySem.W.Frag) : R2 := fun x y H Q => ∃ (n : Nest) (o : Option Bool), NestAt K H n x ∧ NestAt K H n y ∧ valid o n = true ∧ depthN n ≤ 60 ∧ Q (.bl false) H
end L2
namespace Tn
open PySem L2
def spBacked (K : PySem.W.Frag) (g : Nest → Nest) (d : Nat) : Sp := fun vs H Q _ => ∃ (v : V) (n : Nest) (o : Option Bool), vs = [v] ∧ NestAt K H n v ∧ valid o n = true ∧ depthN n < d ∧ ∀ (v' : V) (H' : Hp), NestAt K H' (g n) v' → Same H H' → Q v' H'
def spBackNest (K : PySem.W.Frag) (C : Addr) (g : Nest → Nest) : Sp := fun vs H Q E => ∃ (v : V) (n : Nest), vs = [v] ∧ NestAt K H n v ∧ (okN n = true → ∀ (v' : V) (H' : Hp), NestAt K H' (g n) v' → Same H H' → Q v' H') ∧ (okN n = false → ∀ H', Same H H' → E (.ref C) none H')
end Tn
namespace Tn
open PySem PySem.Spec PyProof PyProof.Rows
section
variable {prog : Program} {w : World} {A : Around} {E : Value → Shared → Prop} {s : Shared}
end
section
variable {prog : Program} {w : World} {A : Around} {E : Value → Shared → Prop} {s : Shared} {n : Nat} {t1 t2 : Addr} {k : Nat} {xs ys : Array Value} {x y a b : Value}
end
def zBL (h : Heap) (t1 t2 : Addr) : Heap := (zA h t1).push { cls := .type "list_iterator", data := .fields #[.ref t2, .int 0 0] }
def zCL (h : Heap) (t1 t2 : Addr) : Heap := ((zBL h t1 t2).push { cls := .type "tuple", data := .seq #[.ref h.objs.size, .ref (zA h t1).objs.size] }).push { cls := .type "tuple", data := .seq #[.none, .none] }
end Tn
namespace L2
open PySem PySem.Spec PyProof.Rows
def Itzl (a b : Addr) : It :=
  ⟨fun i H => ∃ xs ys x y, H a = some (.tup xs) ∧ H b = some (.lst ys) ∧ xs[i]? = some x ∧ ys[i]? = some y,
   fun i H v H' => ∃ p x y, H p = none ∧ v = .ref p ∧ (∀ xs, H a = some (.tup xs) → xs[i]? = some x) ∧ (∀ ys, H b = some (.lst ys) → ys[i]? = some y) ∧ H' = upd H p (.tup [x, y]),
   fun i H => ∃ xs ys, H a = some (.tup xs) ∧ H b = some (.lst ys) ∧ xs.length = i⟩
section
variable {X : Cx}
def iZipL (ta : TA) : TI := fun σ H R => ta σ H fun vs H1 => ∃ a b xs ys, vs = [.ref a, .ref b] ∧ H1 a = some (.tup xs) ∧ H1 b = some (.lst ys) ∧ R (Itzl a b) H1
end
end L2
namespace Tn
open PySem L2
def shareL {α : Type} : List Nest → List α → List (List α)
  | [], _ => []
  | n :: r, xs => xs.take (words n) :: shareL r (xs.drop (words n))
def closeK (k : Bool) (qs : List Nest) : List Nest := if qs.length < 2 then qs else [.knot k (qs.flatMap (partsOf k))]
mutual
def leftP : Nest → List Bool → List Nest
  | .word, bs => if bs.headD false then [.word] else []
  | .knot k ps, bs => closeK k (leftPs ps bs)
  | .bad, _ => []
def leftPs : List Nest → List Bool → List Nest
  | [], _ => []
  | n :: r, bs => leftP n (bs.take (words n)) ++ leftPs r (bs.drop (words n))
end
def keepB (f : Int) (bs : List Bool) (w : Int) : Bool := (bs[(w - f).toNat]?).getD false
def newN (f g : Int) (bs : List Bool) (w : Int) : Int := g + ((bs.take (w - f).toNat).count true : Int)
def keepF (f g : Int) (bs : List Bool) (l : List Int) : List Int := (l.filter (keepB f bs)).map (newN f g bs)
def marks (ws : List Int) (m : Nat) : List Bool := (List.range m).map fun (i : Nat) => decide ((i : Int) ∈ ws)
end Tn
namespace Tn
open PySem L2
def VLs (H : Hp) (rs : List Addr) (xss : List (List V)) : Prop := Paired (fun r xs => H r = some (.lst xs)) rs xss
def ofK (k : Bool) : Nest → Bool
  | .knot k' _ => decide (k' = k)
  | _ => false
def spOfKind (K : PySem.W.Frag) : Sp := fun vs H Q _ => ∃ (v : V) (n : Nest) (o : Option Bool) (k : Bool), vs = [v, .str (kS k)] ∧ NestAt K H n v ∧ valid o n = true ∧ Q (.bl (ofK k n)) H
def spShared (K : PySem.W.Frag) (d : Nat) : Sp := fun vs H Q _ => ∃ (a l : Addr) (k : Bool) (ps : List Nest) (xs : List V), vs = [.ref a, .ref l] ∧ NestAt K H (.knot k ps) (.ref a) ∧ validL k ps = true ∧ depthL ps < d ∧ SqL K H l xs ∧ xs.length ≤ 1000 ∧ wordsL ps ≤ xs.length ∧
  ∀ (sh : Addr) (rs : List Addr) (H' : Hp), H sh = none → H' sh = some (.lst (rs.map V.ref)) → VLs H' rs (shareL ps xs) → Same H H' → Q (.ref sh) H'
def spKnotOf (K : PySem.W.Frag) : Sp := fun vs H Q _ => ∃ (l : Addr) (k : Bool) (ns : List Nest) (us : List V), vs = [.str (kS k), .ref l] ∧ H l = some (.lst us) ∧ NestsAt K H ns us ∧ (∀ n ∈ ns, valid none n = true) ∧ wordsL ns ≤ 900 ∧ 2 ≤ ns.length ∧
  ∀ (v : V) (H' : Hp), NestAt K H' (.knot k (ns.flatMap (partsOf k))) v → Same H H' → Q v H'
def spLeftP (K : PySem.W.Frag) (d : Nat) : Sp := fun vs H Q _ => ∃ (v : V) (l : Addr) (n : Nest) (o : Option Bool) (bs : List Bool), vs = [v, .ref l] ∧ NestAt K H n v ∧ valid o n = true ∧ depthN n < d ∧ words n ≤ 60 ∧ SqL K H l (bs.map V.bl) ∧ bs.length = words n ∧
  ∀ (p : Addr) (us : List V) (H' : Hp), H p = none → H' p = some (.lst us) → NestsAt K H' (leftP n bs) us → Same H H' → Q (.ref p) H'
def ahead (ps : List Nest) (i : Nat) : Nat := wordsL (ps.take i)
end Tn
namespace L2
open PySem PySem.Spec PyProof.Rows PySem.Calls
def Itd (hi : Int) (n : Nat) : It := ⟨fun i _ => i < n, fun i H x H' => H' = H ∧ x = .int (hi - i), fun i _ => n ≤ i⟩
section
variable {X : Cx} {tg : Expr}
def iRng3 (ta : TA) : TI := fun σ H R => ta σ H fun vs H1 => ∃ i j : Int, vs = [.int i, .int j, .int (-1)] ∧ (-(2 ^ 62) ≤ i ∧ i < 2 ^ 62 ∧ -(2 ^ 62) ≤ j ∧ j < 2 ^ 62) ∧ R (Itd i (i - j).toNat) H1
end
end L2
namespace L2
open PySem PySem.W PySem.Spec PyProof.Rows PySem.Calls
theorem bits_of {ns : List Int} (h : WData.layableAll [WData.list (ns.map WData.int)] = true) : ∀ z ∈ ns, Builtin.Int.intBits z ≤ 1048576 := by
  have h1 : WData.layable (WData.list (ns.map WData.int)) = true := by
    unfold WData.layableAll at h
    simpa using h
  have h2 : WData.weightAll (ns.map WData.int) ≤ 2 ^ 20 := by
    unfold WData.layable at h1
    simp only [Bool.and_eq_true, decide_eq_true_eq] at h1
    have := h1.2
    rw [WData.weight] at this
    exact this
  have e : (2 : Nat) ^ 20 = 1048576 := by decide
  rw [e] at h2
  clear h h1 e
  induction ns with
  | nil => intro z hz; cases hz
  | cons n r ih =>
    rw [List.map_cons, WData.weightAll, WData.weight] at h2
    intro z hz
    rcases List.mem_cons.mp hz with rfl | hz
    · unfold Builtin.Int.intBits
      split at h2 <;> split <;> omega
    · exact ih (by omega) z hz
theorem attach_callB {l : OpenLaw} {n : Nat} {q : Program} {loose : List Str} {XP : (Str → Option Value) → Heap → Prop} {YP : World → Heap → Prop} {d : DefRec}
    (hn : l.most = some n) (hdf : d.params.defaults = [])
    (call : ∀ (w : World) (s₀ s₁ : Shared) (mg mb : Str → Option Value) (fa : Addr) (o : Obj) (pm cd doc : Value) (a : Addr) (vs : List Value) (ns : List Int),
      Ground q loose [] XP w s₀ mg mb s₁.heap → YP w s₁.heap →
      s₁.heap.get? fa = some o → o.data = .func (docDef d.name d.params d.body d.scope pm cd doc) → s₁.heap.CodeRec cd d.name → mg d.name = some (.ref fa) →
      s₁.heap.get? a = some { cls := .type "list", data := .seq vs.toArray } → IntsAre vs ns → ns.length ≤ n → (∀ z ∈ ns, Builtin.Int.intBits z ≤ 1048576) → s₁.gens = #[] →
      codeAny (model l.prog w) callerA (.call (.ref fa) ⟨[.ref a], []⟩) (fun r s' => r = .ok (.ret (.bool true)) ∧ OldK s₁.heap s'.heap ∧ s'.os = s₁.os ∧ AllBare s'.gens) s₁) :
    WalkO q loose XP YP l.row.toRowW d [] (fun f vs => PySem.call f vs) := by
  intro w s₀ s₁ mg mb G Y fa o pm cd doc dV kV ho hd hcd hD hmg hg args vals as hpre hlay hrd hwl hlo
  obtain rfl : dV = .none := Dflts.none hD hdf
  obtain rfl : kV = .none := Dflts.noKw hD
  obtain ⟨a, vs, ns, rfl, rfl, hobj, hints, hlen⟩ := Att.script_of hn hpre hwl
  refine enter_call (codeAny_mono (call w s₀ s₁ mg mb fa o pm cd doc a vs ns G Y ho (fd_plain hd) hcd hmg hobj hints hlen (bits_of hlay) hg) fun r s' hq => ?_)
  obtain ⟨rfl, h2, h3, h4⟩ := hq
  exact ⟨.inl ⟨.bool true, .bool true, [], rfl, fun _ => rfl, .bool true, Att.post_true l _, fun _ => ⟨List.Pairwise.nil, fun _ hm => (nomatch hm)⟩⟩, h2, h3, h4⟩
theorem walk_ofB {l : PySem.W.OpenLaw} {n k : Nat} {q : Program} {loose : List Str} {XP : (Str → Option Value) → Heap → Prop} {YP : World → Heap → Prop} {d : DefRec} {K : Params → PySem.W.Frag} {CX : World → CXT} {sp : World → Sp} {x : Str}
    (hn : l.most = some n) (hn2 : n ≤ sizeLine) (hdf : d.params.defaults = []) (hr : Room k callerA)
    (hY : ∀ (w : World) (h : Heap), YP w h → (K w.params).In h)
    (F : ∀ (w : World) (mg : Str → Option Value) (fa : Addr) (h : Heap), (K w.params).In h → h.Ns mainGlobals mg → mg d.name = some (.ref fa) →
      ∃ fd : FuncData, (∀ (s : Shared) (u : Value), BindsTo s fd ⟨[u], []⟩ [(x, u)]) ∧
        ∀ base : Heap, (K w.params).In base → base.Ns mainGlobals mg → FnOk l.prog w (K w.params) mg base (CX w) k fa fd [x] (sp w))
    (hsp : ∀ (w : World) (H : Hp) (a : Addr) (ns : List Int), ns.length ≤ n → (∀ z ∈ ns, Builtin.Int.intBits z ≤ 1048576) → Only H → SqL (K w.params) H a (ns.map V.int) → sp w [.ref a] H (fun v _ => v = .bl true) fun _ _ _ => False)
    (hCX : ∀ (w : World) (H : Hp) (s : Shared) (e : Value) (s' : Shared), CX w [] H s (fun _ _ _ => False) e s' → False) :
    PySem.W.WalkO q loose XP YP l.row.toRowW d [] (fun f vs => PySem.call f vs) := by
  refine attach_callB hn hdf fun w s₀ s₁ mg mb fa o pm cd doc a vs ns G Y ho hd hcd hmg hobj hints hlen hbits hg => ?_
  have KX := hY w _ Y
  obtain ⟨fd, hb, hF⟩ := F w mg fa _ KX G.T.g hmg
  exact law_call KX G.T.g G.T.b G.T.builtins G.T.nolimit hg hobj hints (Nat.le_trans hlen hn2) hr hF hb (fun H hO hS => hsp w H a ns hlen hbits hO hS) fun H e s' => hCX w H s₁ e s'
end L2
namespace Tn
open PySem L2
def spLawB (K : PySem.W.Frag) : Sp := fun vs H Q _ => ∃ (a : Addr) (ns : List Int), vs = [.ref a] ∧ SqL K H a (ns.map V.int) ∧ ns.length ≤ 63 ∧ (∀ z ∈ ns, Builtin.Int.intBits z ≤ 1048576) ∧ ∀ H', Q (.bl true) H'
def spCellB (K : PySem.W.Frag) : Sp := fun vs H Q _ => ∃ (a : Addr) (ns : List Int) (k : Nat), vs = [.ref a, .int (k : Int)] ∧ SqL K H a (ns.map V.int) ∧ (∀ z ∈ ns, Builtin.Int.intBits z ≤ 1048576) ∧ ∀ z : Int, Builtin.Int.intBits z ≤ 1048576 → Q (.int z) H
theorem bits_le {z : Int} {m : Nat} (h : z.natAbs < 2 ^ m) : Builtin.Int.intBits z ≤ m := by
  unfold Builtin.Int.intBits
  split
  · exact Nat.zero_le _
  · rename_i e
    have e : z ≠ 0 := by simpa using e
    have := (Nat.log2_lt (n := z.natAbs) (k := m) (by omega)).mpr h
    omega
end Tn
namespace Tn
open PySem L2
abbrev Cw (w : Nat) : Int := tab.getD w 0
abbrev Pw (w : Nat) : Int := cptF tab w
abbrev Rw (w : Nat) : Int := crowF tab w
abbrev Fw (w f : Nat) : Int := cwfF tab w f
theorem cw_all : ((List.range 59).all fun n => decide (1 ≤ tab.getD (n + 2) 0)) = true := by decide +kernel
theorem cw_pos {w : Nat} (h1 : 2 ≤ w) (h2 : w ≤ 60) : 1 ≤ Cw w := by
  have := List.all_eq_true.mp cw_all (w - 2) (List.mem_range.mpr (by omega))
  rw [show w - 2 + 2 = w by omega] at this
  simpa using this
theorem cw_nn (w : Nat) : 0 ≤ Cw w := by
  by_cases h : w < tab.length
  · exact (tab_small _ (getD_memT h)).1
  · show 0 ≤ tab.getD w 0
    rw [List.getD_eq_getElem?_getD, List.getElem?_eq_none (by omega)]
    exact Int.le_refl _
theorem pw_one : Pw 1 = 1 := rfl
theorem cw_one : Cw 1 = 0 := rfl
theorem pw_two {w : Nat} (h : w ≠ 1) : Pw w = Cw w := by
  show cptF tab w = _
  unfold cptF
  rw [if_neg h]
theorem rw_eq (w : Nat) : Rw w = Pw w + Cw w := rfl
theorem pw_nn (w : Nat) : 0 ≤ Pw w := by
  by_cases h : w = 1
  · subst h; decide
  · rw [pw_two h]; exact cw_nn w
theorem pw_pos {w : Nat} (h1 : 1 ≤ w) (h2 : w ≤ 60) : 1 ≤ Pw w := by
  by_cases h : w = 1
  · subst h; decide
  · rw [pw_two h]; exact cw_pos (by omega) h2
theorem rw_nn (w : Nat) : 0 ≤ Rw w := by
  have := pw_nn w
  have := cw_nn w
  rw [rw_eq]; omega
theorem rw_pos {w : Nat} (h1 : 1 ≤ w) (h2 : w ≤ 60) : 1 ≤ Rw w := by
  have := pw_pos h1 h2
  have := cw_nn w
  rw [rw_eq]; omega
theorem fw_eq (w f : Nat) : Fw w f = Pw f * Rw (w - f) := rfl
theorem fw_nn (w f : Nat) : 0 ≤ Fw w f := Int.mul_nonneg (pw_nn f) (rw_nn _)
def sumF (w f : Nat) : Int := ((List.range (f - 1)).map fun i => cwfF tab w (1 + i)).sum
theorem sumF_one (w : Nat) : sumF w 1 = 0 := rfl
theorem sumF_succ {w f : Nat} (h : 1 ≤ f) : sumF w (f + 1) = sumF w f + Fw w f := by
  unfold sumF
  rw [show f + 1 - 1 = (f - 1) + 1 by omega, List.range_succ, List.map_append, List.sum_append]
  show _ + (cwfF tab w (1 + (f - 1)) + 0) = _
  rw [show 1 + (f - 1) = f by omega, Int.add_zero]
theorem sumF_mono {w : Nat} : ∀ {f g : Nat}, 1 ≤ f → f ≤ g → sumF w f ≤ sumF w g
  | f, 0, h1, h2 => by omega
  | f, g + 1, h1, h2 => by
    by_cases e : f = g + 1
    · subst e; exact Int.le_refl _
    · have := sumF_mono (w := w) h1 (show f ≤ g by omega)
      have := fw_nn w g
      rw [sumF_succ (by omega)]
      omega
theorem sumF_full {w : Nat} (h1 : 2 ≤ w) (h2 : w ≤ 60) : sumF w w = Cw w := by
  have := tab_step (n := w - 2) (by omega)
  rw [show w - 2 + 2 = w by omega, show w - 2 + 1 = w - 1 by omega] at this
  exact this.symm
mutual
def rkN : Nest → Int
  | .word => 0
  | .knot _ ps => rkL true ps
  | .bad => 0
def rkL : Bool → List Nest → Int
  | _, [] => 0
  | b, n :: r => if r.isEmpty then rkN n else (if b then 0 else Pw (words n + wordsL r)) + sumF (words n + wordsL r) (words n) + rkN n * Rw (wordsL r) + rkL false r
end
theorem rkL_one (b : Bool) (n : Nest) : rkL b [n] = rkN n := by rw [rkL]; rfl
theorem rkL_more (b : Bool) (n : Nest) {r : List Nest} (h : r ≠ []) : rkL b (n :: r) = (if b then 0 else Pw (words n + wordsL r)) + sumF (words n + wordsL r) (words n) + rkN n * Rw (wordsL r) + rkL false r := by
  rw [rkL, if_neg]
  cases r with
  | nil => exact absurd rfl h
  | cons => simp
theorem rkL_false {ps : List Nest} (h : 2 ≤ ps.length) : rkL false ps = Pw (wordsL ps) + rkL true ps := by
  match ps, h with
  | n :: m :: r, _ =>
    have e : wordsL (n :: m :: r) = words n + wordsL (m :: r) := by rw [wordsL]
    rw [rkL_more false n (r := m :: r) (by simp), rkL_more true n (r := m :: r) (by simp), e]
    simp only [Bool.false_eq_true, if_false, if_true]
    omega
theorem wl_cons (n : Nest) (r : List Nest) : wordsL (n :: r) = words n + wordsL r := by rw [wordsL]
theorem one_of {ps : List Nest} (h1 : 1 ≤ ps.length) (h2 : ¬ 2 ≤ ps.length) : ∃ n, ps = [n] := by
  cases ps with
  | nil => simp at h1
  | cons n r =>
    cases r with
    | nil => exact ⟨n, rfl⟩
    | cons m r => simp at h2
theorem valid_any {o : Option Bool} {n : Nest} (h : valid o n = true) : valid none n = true := by
  cases n with
  | word => rfl
  | bad => simp [valid] at h
  | knot k ps => simp only [valid, Bool.and_eq_true] at h ⊢; exact ⟨by simp, h.2⟩
theorem mul_room {x p r : Int} (h1 : x < p) (hr : 0 ≤ r) : x * r + r ≤ p * r := by
  have h : (x + 1) * r ≤ p * r := Int.mul_le_mul_of_nonneg_right (by omega) hr
  rw [Int.add_mul, Int.one_mul] at h
  exact h
mutual
theorem rkN_lt : ∀ {n : Nest}, fit n = true → words n ≤ 60 → 0 ≤ rkN n ∧ rkN n < Pw (words n)
  | .word, _, _ => by rw [rkN, words]; decide
  | .bad, h, _ => by simp [fit] at h
  | .knot k ps, hf, hw => by
    rw [fit, Bool.and_eq_true, decide_eq_true_eq] at hf
    rw [words] at hw
    have := rkL_lt hf.2 (List.ne_nil_of_length_pos (by omega)) hw
    have hl := wordsL_fit hf.2
    rw [rkN, words, pw_two (by omega)]
    exact this.2 hf.1
theorem rkL_lt : ∀ {ps : List Nest}, fitL ps = true → ps ≠ [] → wordsL ps ≤ 60 → (0 ≤ rkL false ps ∧ rkL false ps < Rw (wordsL ps)) ∧ (2 ≤ ps.length → 0 ≤ rkL true ps ∧ rkL true ps < Cw (wordsL ps))
  | [], _, h, _ => absurd rfl h
  | n :: r, hf, _, hw => by
    rw [fitL, Bool.and_eq_true] at hf
    rw [wordsL] at hw ⊢
    have h1 := rkN_lt hf.1 (by omega)
    have hwn := words_fit hf.1
    by_cases hr : r = []
    · subst hr
      rw [rkL_one]
      refine ⟨⟨h1.1, ?_⟩, fun h => absurd h (by simp)⟩
      rw [wordsL, Nat.add_zero, rw_eq]
      have := cw_nn (words n)
      omega
    · have h2 := (rkL_lt hf.2 hr (by omega)).1
      have hwr := wordsL_fit hf.2
      have hrl : 1 ≤ r.length := List.length_pos_iff.mpr hr
      have hm := mul_room h1.2 (rw_nn (wordsL r))
      have hx : 0 ≤ rkN n * Rw (wordsL r) := Int.mul_nonneg h1.1 (rw_nn _)
      have hF : Fw (words n + wordsL r) (words n) = Pw (words n) * Rw (wordsL r) := by rw [fw_eq, Nat.add_sub_cancel_left]
      have hS := sumF_succ (w := words n + wordsL r) hwn
      have hS2 := sumF_mono (w := words n + wordsL r) (show 1 ≤ words n + 1 by omega) (show words n + 1 ≤ words n + wordsL r by omega)
      have hS3 := sumF_full (w := words n + wordsL r) (by omega) hw
      have hS0 := sumF_mono (w := words n + wordsL r) (Nat.le_refl 1) hwn
      rw [sumF_one] at hS0
      have key : 0 ≤ rkL true (n :: r) ∧ rkL true (n :: r) < Cw (words n + wordsL r) := by
        rw [rkL_more _ _ hr, if_pos rfl]
        omega
      refine ⟨?_, fun _ => key⟩
      have e := rkL_false (ps := n :: r) (by rw [List.length_cons]; omega)
      rw [wordsL] at e
      rw [e, rw_eq]
      have := pw_nn (words n + wordsL r)
      omega
end
theorem split_sum {w f g : Nat} {x y : Int} (hf : 1 ≤ f) (hg : 1 ≤ g) (hx : 0 ≤ x) (hx2 : x < Fw w f) (hy : 0 ≤ y) (hy2 : y < Fw w g) (h : sumF w f + x = sumF w g + y) : f = g ∧ x = y := by
  rcases Nat.lt_trichotomy f g with z | z | z
  · have h1 := sumF_mono (w := w) (show 1 ≤ f + 1 by omega) z
    rw [sumF_succ hf] at h1
    omega
  · subst z
    exact ⟨rfl, by omega⟩
  · have h1 := sumF_mono (w := w) (show 1 ≤ g + 1 by omega) z
    rw [sumF_succ hg] at h1
    omega
theorem split_mul {x x' y y' r : Int} (hy : 0 ≤ y) (hy2 : y < r) (hy' : 0 ≤ y') (hy2' : y' < r) (h : x * r + y = x' * r + y') : x = x' ∧ y = y' := by
  have e1 : (y + x * r) / r = x := by rw [Int.add_mul_ediv_right _ _ (by omega), Int.ediv_eq_zero_of_lt hy hy2, Int.zero_add]
  have e2 : (y' + x' * r) / r = x' := by rw [Int.add_mul_ediv_right _ _ (by omega), Int.ediv_eq_zero_of_lt hy' hy2', Int.zero_add]
  have e : x = x' := by rw [← e1, ← e2, Int.add_comm, h, Int.add_comm]
  subst e
  exact ⟨rfl, by omega⟩
def KO (k : Bool) (n : Nest) : Prop := n = .word ∨ ∃ ps, n = .knot k ps
theorem ko_of {k : Bool} {n : Nest} (h : valid (some k) n = true) : KO (!k) n := by
  cases n with
  | word => exact .inl rfl
  | bad => simp [valid] at h
  | knot k2 ps =>
    refine .inr ⟨ps, ?_⟩
    simp only [valid, Bool.and_eq_true] at h
    have := h.1
    revert this
    cases k <;> cases k2 <;> simp
theorem more_lt {n : Nest} {r : List Nest} (hf : fit n = true) (hr : fitL r = true) (hne : r ≠ []) (hw : words n + wordsL r ≤ 60) : 0 ≤ rkN n * Rw (wordsL r) + rkL false r ∧ rkN n * Rw (wordsL r) + rkL false r < Fw (words n + wordsL r) (words n) := by
  have h1 := rkN_lt hf (by omega)
  have h2 := (rkL_lt hr hne (by omega)).1
  have hm := mul_room h1.2 (rw_nn (wordsL r))
  have hx : 0 ≤ rkN n * Rw (wordsL r) := Int.mul_nonneg h1.1 (rw_nn _)
  rw [fw_eq, Nat.add_sub_cancel_left]
  omega
theorem rk_inj : ∀ (d : Nat), (∀ {n m : Nest} {k : Bool}, words n ≤ d → words n = words m → words n ≤ 60 → KO k n → KO k m → fit n = true → fit m = true → valid none n = true → valid none m = true → rkN n = rkN m → n = m) ∧
    (∀ {ps qs : List Nest} {k b : Bool}, wordsL ps ≤ d → wordsL ps = wordsL qs → wordsL ps ≤ 60 → fitL ps = true → fitL qs = true → validL k ps = true → validL k qs = true → (if b then 2 ≤ ps.length ∧ 2 ≤ qs.length else 1 ≤ ps.length ∧ 1 ≤ qs.length) → rkL b ps = rkL b qs → ps = qs)
  | 0 => by
    refine ⟨fun {n m k} h0 h1 h2 h3 h4 h5 h6 _ _ h7 => ?_, fun {ps qs k b} h0 h1 h2 h3 h4 h5 h6 h7 h8 => ?_⟩
    · have := words_fit h5
      omega
    · have := wordsL_fit h3
      cases b <;> simp at h7 <;> omega
  | d + 1 => by
    obtain ⟨ihN, ihL⟩ := rk_inj d
    have two : ∀ {ps qs : List Nest} {k : Bool}, wordsL ps ≤ d + 1 → wordsL ps = wordsL qs → wordsL ps ≤ 60 → fitL ps = true → fitL qs = true → validL k ps = true → validL k qs = true → 2 ≤ ps.length → 2 ≤ qs.length → rkL true ps = rkL true qs → ps = qs := by
      intro ps qs k h0 h1 h2 h3 h4 h5 h6 l1 l2 h8
      match ps, qs, l1, l2 with
      | n :: n2 :: r, m :: m2 :: s, _, _ =>
        have e1 : n2 :: r ≠ [] := by simp
        have e2 : m2 :: s ≠ [] := by simp
        rw [rkL_more _ _ e1, rkL_more _ _ e2, if_pos rfl, if_pos rfl] at h8
        rw [fitL, Bool.and_eq_true] at h3 h4
        rw [validL, Bool.and_eq_true] at h5 h6
        rw [wl_cons n] at h0 h1 h2
        rw [wl_cons m] at h1
        have b1 := more_lt h3.1 h3.2 e1 h2
        have b2 := more_lt h4.1 h4.2 e2 (by omega)
        rw [← h1] at h8 b2
        have w1 := words_fit h3.1
        have w2 := words_fit h4.1
        have wr1 := wordsL_fit h3.2
        rw [List.length_cons] at wr1
        obtain ⟨ef, ex⟩ := split_sum w1 w2 b1.1 b1.2 b2.1 b2.2 (by omega)
        have er : wordsL (n2 :: r) = wordsL (m2 :: s) := by omega
        have y1 := (rkL_lt h3.2 e1 (by omega)).1
        have y2 := (rkL_lt h4.2 e2 (by omega)).1
        rw [← er] at ex y2
        obtain ⟨en, ey⟩ := split_mul y1.1 y1.2 y2.1 y2.2 ex
        have a1 := ihN (by omega) ef (by omega) (ko_of h5.1) (ko_of h6.1) h3.1 h4.1 (valid_any h5.1) (valid_any h6.1) en
        have a2 := ihL (b := false) (k := k) (show wordsL (n2 :: r) ≤ d by omega) er (by omega) h3.2 h4.2 h5.2 h6.2 (by
          simp only [Bool.false_eq_true, if_false, List.length_cons]
          exact ⟨by omega, by omega⟩) ey
        rw [a1, a2]
    have nests : ∀ {n m : Nest} {k : Bool}, words n ≤ d + 1 → words n = words m → words n ≤ 60 → KO k n → KO k m → fit n = true → fit m = true → valid none n = true → valid none m = true → rkN n = rkN m → n = m := by
      intro n m k h0 h1 h2 h3 h4 h5 h6 v1 v2 h7
      rcases h3 with rfl | ⟨ps, rfl⟩
      · rcases h4 with rfl | ⟨qs, rfl⟩
        · rfl
        · rw [fit, Bool.and_eq_true, decide_eq_true_eq] at h6
          have := wordsL_fit h6.2
          rw [words, words] at h1
          omega
      · rcases h4 with rfl | ⟨qs, rfl⟩
        · rw [fit, Bool.and_eq_true, decide_eq_true_eq] at h5
          have := wordsL_fit h5.2
          rw [words, words] at h1
          omega
        · rw [fit, Bool.and_eq_true, decide_eq_true_eq] at h5 h6
          rw [words] at h0 h1 h2
          rw [words] at h1
          simp only [valid, Bool.and_eq_true] at v1 v2
          rw [rkN, rkN] at h7
          rw [two h0 h1 h2 h5.2 h6.2 v1.2 v2.2 h5.1 h6.1 h7]
    refine ⟨nests, ?_⟩
    intro ps qs k b h0 h1 h2 h3 h4 h5 h6 h7 h8
    cases b with
    | true =>
      simp only [if_true] at h7
      exact two h0 h1 h2 h3 h4 h5 h6 h7.1 h7.2 h8
    | false =>
      simp only [Bool.false_eq_true, if_false] at h7
      have big : ∀ {ps : List Nest}, fitL ps = true → wordsL ps ≤ 60 → 2 ≤ ps.length → Pw (wordsL ps) ≤ rkL false ps := fun {ps} a b c => by
        rw [rkL_false c]
        have := ((rkL_lt a (List.ne_nil_of_length_pos (by omega)) b).2 c).1
        omega
      have small : ∀ {n : Nest}, fitL [n] = true → wordsL [n] ≤ 60 → rkL false [n] < Pw (wordsL [n]) := fun {n} a b => by
        rw [fitL, Bool.and_eq_true] at a
        have e : wordsL [n] = words n := by rw [wordsL, wordsL]; rfl
        rw [e] at b ⊢
        rw [rkL_one]
        exact (rkN_lt a.1 b).2
      by_cases l1 : 2 ≤ ps.length
      · by_cases l2 : 2 ≤ qs.length
        · refine two h0 h1 h2 h3 h4 h5 h6 l1 l2 ?_
          rw [rkL_false l1, rkL_false l2, h1] at h8
          omega
        · obtain ⟨m, rfl⟩ := one_of h7.2 l2
          have a1 := big h3 h2 l1
          have a2 := small h4 (by omega)
          rw [h1] at a1
          omega
      · obtain ⟨n, rfl⟩ := one_of h7.1 l1
        by_cases l2 : 2 ≤ qs.length
        · have a1 := big h4 (by omega) l2
          have a2 := small h3 h2
          rw [h1] at a2
          omega
        · obtain ⟨m, rfl⟩ := one_of h7.2 l2
          rw [rkL_one, rkL_one] at h8
          rw [fitL, Bool.and_eq_true] at h3 h4
          rw [validL, Bool.and_eq_true] at h5 h6
          have ew : ∀ x : Nest, wordsL [x] = words x := fun x => by rw [wordsL, wordsL]; rfl
          rw [ew n] at h0 h1 h2
          rw [ew m] at h1
          rw [nests (by omega) h1 h2 (ko_of h5.1) (ko_of h6.1) h3.1 h4.1 (valid_any h5.1) (valid_any h6.1) h8]
def numN (n : Nest) : Int := rkN n + (if ofK false n then Cw (words n) else 0)
end Tn
namespace Tn
open PySem L2
theorem pw_big {w : Nat} (h : w ≤ 60) : cBig (Pw w) := by
  show cBig (cptF tab w)
  unfold cptF
  split
  · exact ⟨by decide, by decide⟩
  · exact tab_small _ (getD_memT (by rw [tab_len]; omega))
theorem cw_big {w : Nat} (h : w ≤ 60) : cBig (Cw w) := tab_small _ (getD_memT (by rw [tab_len]; omega))
theorem int_bits {z : Int} {m : Nat} (h0 : 0 ≤ z) (h : z < 2 ^ m) : Builtin.Int.intBits z ≤ m + 1 := by
  unfold Builtin.Int.intBits
  split
  · exact Nat.zero_le _
  · rename_i hne
    have hn : z.natAbs < 2 ^ m := by
      have : ((z.natAbs : Nat) : Int) < ((2 ^ m : Nat) : Int) := by
        have e : ((2 ^ m : Nat) : Int) = (2 : Int) ^ m := by simp
        rw [e]
        generalize (2 : Int) ^ m = q at h
        omega
      exact Int.ofNat_lt.mp this
    by_cases hz : z.natAbs = 0
    · rw [hz]
      show Nat.log2 0 + 1 ≤ m + 1
      rw [show Nat.log2 0 = 0 by decide]
      omega
    · have : z.natAbs.log2 < m := (Nat.log2_lt hz).mpr hn
      omega
theorem rw_big {w : Nat} (h : w ≤ 60) : 0 ≤ Rw w ∧ Rw w < 2 ^ 201 := by
  have h1 := pw_big h
  have h2 := cw_big h
  have a := h1.1
  have b := h1.2
  have c := h2.1
  have d := h2.2
  rw [rw_eq]
  omega
theorem rk_mul {n : Nest} {w : Nat} (hf : fit n = true) (hw : words n ≤ 60) (hw2 : w ≤ 60) : IntMulOk (rkN n) (Rw w) := by
  have h1 := rkN_lt hf hw
  have h2 := pw_big hw
  have h3 := rw_big hw2
  exact IntMulOk.of_le (m := 201) (n := 202) (int_bits h1.1 (Int.lt_trans h1.2 h2.2)) (int_bits h3.1 h3.2) (by decide)
def CtsAt (K : PySem.W.Frag) (H : Hp) (l : Addr) (m : Nat) : Prop := m ≤ 60 ∧ H l = some (.lst ((tab.take (m + 1)).map V.int))
theorem CtsAt.mono {K : PySem.W.Frag} {H H' : Hp} {l : Addr} {m : Nat} (h : CtsAt K H l m) (s : Same H H') : CtsAt K H' l m := ⟨h.1, s _ _ h.2⟩
theorem CtsAt.len {K : PySem.W.Frag} {H : Hp} {l : Addr} {m w : Nat} (h : CtsAt K H l m) (hw : w ≤ m) : w < (tab.take (m + 1)).length := by
  have := h.1
  rw [List.length_take, tab_len]
  omega
theorem cpt_at {m w : Nat} (h : w ≤ m) : cptF (tab.take (m + 1)) w = Pw w := cpt_take (by omega)
theorem crow_at {m w : Nat} (h : w ≤ m) : crowF (tab.take (m + 1)) w = Rw w := by
  show crowF _ w = crowF tab w
  unfold crowF
  rw [cpt_take (by omega), getD_take (by omega)]
theorem cwf_at {m w f : Nat} (h : f ≤ m) (h2 : w - f ≤ m) : cwfF (tab.take (m + 1)) w f = Fw w f := cwf_take (by omega) (by omega)
theorem ctake_small {m : Nat} : ∀ z ∈ tab.take (m + 1), cBig z := fun z hz => tab_small z (List.mem_of_mem_take hz)
def spRankN (K : PySem.W.Frag) (d : Nat) : Sp := fun vs H Q _ => ∃ (l : Addr) (m : Nat) (v : V) (n : Nest) (o : Option Bool), vs = [.ref l, v] ∧ CtsAt K H l m ∧ NestAt K H n v ∧ valid o n = true ∧ depthN n < d ∧ words n ≤ m ∧ ∀ H', Same H H' → Q (.int (rkN n)) H'
def spNumberOf (K : PySem.W.Frag) (C : Addr) : Sp := fun vs H Q E => ∃ (v : V) (n : Nest), vs = [v] ∧ NestAt K H n v ∧ (okN n = true → ∀ H', Same H H' → Q (.int (numN n)) H') ∧ (okN n = false → ∀ H', Same H H' → E (.ref C) none H')
def spPartAt (K : PySem.W.Frag) (d : Nat) : Sp := fun vs H Q _ => ∃ (l : Addr) (m w : Nat) (k : Bool) (z : Int), vs = [.ref l, .str (kS k), .int (w : Int), .int z] ∧ CtsAt K H l m ∧ 1 ≤ w ∧ w ≤ m ∧ w ≤ d ∧ 0 ≤ z ∧ z < Pw w ∧
  ∀ (n : Nest) (v : V) (H' : Hp), NestAt K H' n v → valid (some (!k)) n = true → fit n = true → KO k n → words n = w → rkN n = z → Same H H' → Q v H'
def spNestAt (K : PySem.W.Frag) (C : Addr) : Sp := fun vs H Q E => ∃ (m : Nat) (z : Int), vs = [.int (m : Int), .int z] ∧ 1 ≤ m ∧ m ≤ 60 ∧
  ((0 ≤ z ∧ z < Rw m) → ∀ (n : Nest) (v : V) (H' : Hp), NestAt K H' n v → valid none n = true → fit n = true → words n = m → numN n = z → Same H H' → Q v H') ∧ (¬ (0 ≤ z ∧ z < Rw m) → ∀ H', Same H H' → E (.ref C) none H')
theorem rank_step {n : Nest} {r : List Nest} (b : Bool) (h : r ≠ []) : rkL b (n :: r) = (if b then 0 else Pw (wordsL (n :: r))) + sumF (wordsL (n :: r)) (words n) + rkN n * Rw (wordsL r) + rkL false r := by
  rw [wl_cons]
  exact rkL_more b n h
theorem cut_last (us : List V) (h : 1 ≤ us.length) : cutV us none (some (-1)) = us.take (us.length - 1) := by
  have e1 : HT.sIx us.length 0 none = 0 := rfl
  have e2 : HT.sIx us.length us.length (some (-1)) = us.length - 1 := by
    show (if (-1 : Int) < 0 then ((-1 : Int) + (us.length : Int)).toNat else min (-1 : Int).toNat us.length) = us.length - 1
    rw [if_pos (by decide)]
    omega
  unfold cutV
  rw [e1, e2, List.drop_zero, Nat.sub_zero]
end Tn
namespace Tn
open PySem L2
theorem kind_other (k : Bool) (R : V → Prop) (h : R (.str (kS (!k)))) : if decide (V.str (kS k) = V.str "+") = true then R (.str "-") else R (.str "+") := by
  cases k with
  | true => rw [decide_eq_true (by rfl), if_pos rfl]; exact h
  | false => rw [decide_eq_false (by decide +kernel), if_neg (by simp)]; exact h
def Rest (qs : List Nest) (w : Nat) (z Z : Int) : Prop := ∀ r : List Nest, 2 ≤ r.length → wordsL r = w → rkL true r = z → rkL true (qs ++ r) = Z
theorem Rest.next {qs : List Nest} {w f : Nat} {z Z : Int} {n : Nest} (h : Rest qs w z Z) (hn : words n = f) (hf : f < w) {y : Int} (hz : z = sumF w f + rkN n * Rw (w - f) + Pw (w - f) + y) : Rest (qs ++ [n]) (w - f) y Z := fun r h2 hw hr => by
  rw [List.append_assoc]
  refine h ([n] ++ r) (by rw [List.length_append]; simp; omega) ?_ ?_
  · show wordsL (n :: r) = w
    rw [wl_cons]
    omega
  · show rkL true (n :: r) = z
    rw [rank_step true (List.ne_nil_of_length_pos (by omega)), rkL_false h2, if_pos rfl, wl_cons, hw, hr, hn, hz, show f + (w - f) = w by omega]
    omega
theorem Rest.last {qs : List Nest} {w f : Nat} {z Z : Int} {n m : Nest} (h : Rest qs w z Z) (hn : words n = f) (hm : words m = w - f) (hf : f < w) (hz : z = sumF w f + rkN n * Rw (w - f) + rkN m) : rkL true (qs ++ [n] ++ [m]) = Z := by
  rw [List.append_assoc]
  refine h ([n] ++ [m]) (by simp) ?_ ?_
  · show wordsL (n :: m :: []) = w
    rw [wl_cons, wl_cons, wordsL]
    omega
  · show rkL true (n :: [m]) = z
    rw [rank_step true (by simp), rkL_one, if_pos rfl, wl_cons, wl_cons, wordsL, hn, hm, hz, Nat.add_zero, show f + (w - f) = w by omega]
    omega
end Tn
namespace L2
open PySem PySem.Spec PyProof.Rows
section
variable {X : Cx}
theorem op_fdivB : OpR X (binaryOp .FloorDiv) (rI (fun _ j => 0 < j ∧ j < 2 ^ 300) fun i j => .int (i / j)) := opI fun i j _ _ _ _ _ hc q => by
  have h1 : (0 : Int) < j := hc.1
  have h2 : j < 2 ^ 300 := hc.2
  have hn : j.natAbs < 2 ^ 300 := by
    have e : ((2 ^ 300 : Nat) : Int) = (2 : Int) ^ 300 := by simp
    have : ((j.natAbs : Nat) : Int) < ((2 ^ 300 : Nat) : Int) := by
      rw [e]
      generalize (2 : Int) ^ 300 = q at h2
      omega
    exact Int.ofNat_lt.mp this
  have hl : j.natAbs.log2 < 9000 := Nat.lt_of_lt_of_le ((Nat.log2_lt (by omega)).mpr hn) (by decide)
  exact floordiv_int (by omega) (by rw [Int.fdiv_eq_ediv_of_nonneg i (by omega)]; exact q) (.inl (PyProof.noPylong_of_log2 hl))
end
end L2
namespace Tn
open PySem L2
theorem rw_div {w : Nat} (h1 : 1 ≤ w) (h : w ≤ 60) : 0 < Rw w ∧ Rw w < 2 ^ 300 := by
  have h2 := rw_big h
  have h3 := rw_pos h1 h
  refine ⟨by omega, Int.lt_trans h2.2 ?_⟩
  decide
end Tn
namespace Tn
open PySem L2
theorem fitL_app : ∀ (a b : List Nest), fitL (a ++ b) = (fitL a && fitL b)
  | [], b => by simp [fitL]
  | n :: a, b => by rw [List.cons_append, fitL, fitL, fitL_app a b, Bool.and_assoc]
end Tn
namespace Tn
open PySem L2
def WtsAt (K : PySem.W.Frag) (H : Hp) (l : Addr) (M : Nat) : Prop := M ≤ 60 ∧ H l = some (.lst ((wtab.take (M - 2 + 3)).map V.int))
def spLCounts (K : PySem.W.Frag) : Sp := fun vs H Q _ => ∃ m : Nat, vs = [.int (m : Int)] ∧ 1 ≤ m ∧ m ≤ 60 ∧ ∀ (l : Addr) (H' : Hp), H l = none → WtsAt K H' l m → Same H H' → Q (.ref l) H'
def spPWays (K : PySem.W.Frag) : Sp := fun vs H Q _ => ∃ (l : Addr) (M w : Nat), vs = [.ref l, .int (w : Int)] ∧ WtsAt K H l M ∧ 1 ≤ w ∧ w ≤ M ∧ Q (.int (Pw w)) H
def spLSize (K : PySem.W.Frag) (d : Nat) : Sp := fun vs H Q _ => ∃ (v : V) (n : Nest) (o : Option Bool), vs = [v] ∧ NestAt K H n v ∧ valid o n = true ∧ depthN n < d ∧ words n ≤ 60 ∧ ∀ H', Same H H' → Q (.int (words n : Nat)) H'
def spLRank (K : PySem.W.Frag) (d : Nat) : Sp := fun vs H Q _ => ∃ (l : Addr) (M : Nat) (v : V) (n : Nest) (o : Option Bool), vs = [.ref l, v] ∧ WtsAt K H l M ∧ NestAt K H n v ∧ valid o n = true ∧ depthN n < d ∧ words n ≤ M ∧ ∀ H', Same H H' → Q (.int (rkN n)) H'
def spLNumber (K : PySem.W.Frag) : Sp := fun vs H Q _ => ∃ (v : V) (n : Nest), vs = [v] ∧ NestAt K H n v ∧ valid none n = true ∧ words n ≤ 60 ∧ ∀ H', Same H H' → Q (.int (numN n)) H'
def spIsNP (K : PySem.W.Frag) : Sp := fun vs H Q _ => ∃ (v : V) (n : Nest), vs = [v] ∧ NestAt K H n v ∧ valid none n = true ∧ words n ≤ 60 ∧ ∀ H', Same H H' → Q (.bl true) H'
end Tn
namespace HT
open PySem PyProof.Rows PySem.SeqAt
open PySem.AutoSeq1 (wpAny_loadPart')
open PySem.MeetsSeq PySem.MeetsSeq2 PySem.MeetsSeq3
theorem lt_loopS (l b : Addr) (items items2 : Array Value) (n n2 : Nat) (dd dd2 : Option Addr) (sl sl2 : Array (Option Value)) (j : Nat) {x y : Int} {t u : Tok}
    (hpre : ∀ m, m < j → ∃ a t u, items[m]? = some (Value.int a t) ∧ items2[m]? = some (Value.int a u)) (hx : items[j]? = some (.int x t)) (hy : items2[j]? = some (.int y u)) (hxy : x < y) (k : Nat) :
    ∀ i : Nat, j - i = k → i ≤ j → Meets (Builtin.«list.__eq__.loop» ⟨[.ref l, .ref b, rawInt i, rawInt 0], []⟩)
      (fun _ R s => s.heap.get? l = some { cls := .type "list", dict := dd, data := .seq items n, slots := sl } ∧ s.heap.get? b = some { cls := .type "list", dict := dd2, data := .seq items2 n2, slots := sl2 } ∧ R (.ok (.ret (.bool true))) s) := by
  induction k with
  | zero =>
    intro i hk hij prog w A R s h
    obtain ⟨hp, g, d, tk, os⟩ := s; obtain ⟨hl, hb, h⟩ := h
    have e : i = j := by omega
    subst e
    wp_walk using wpAny_loadPart' hl, wpAny_loadPart' hb
    have hi1 : items[((i : Nat) : Int).toNat]? = some (.int x t) := by simpa using hx
    have hi2 : items2[((i : Nat) : Int).toNat]? = some (.int y u) := by simpa using hy
    rw [hi1, hi2]
    obtain ⟨e, he, hiff⟩ := eqAt_int A.in1 ⟨hp, g, d, tk, os⟩ x t y u
    have ef : e = false := by
      cases e with
      | false => rfl
      | true => have := hiff.mp rfl; omega
    subst ef
    refine wpAny_bind (he prog w _ _ ?_)
    have hri := rcLt_int A.in1 ⟨hp, g, d, tk, os⟩ x t y u prog w
    wp_walk using wpAny_loadPart' hl, wpAny_loadPart' hb
    rw [hi1, hi2]
    wp_walk using hri
    rw [decide_eq_true hxy]
    simpa using h
  | succ k ih =>
    intro i hk hij prog w A R s h
    obtain ⟨hp, g, d, tk, os⟩ := s; obtain ⟨hl, hb, h⟩ := h
    wp_walk using wpAny_loadPart' hl, wpAny_loadPart' hb
    obtain ⟨a, t1, u1, g1, g2⟩ := hpre i (by omega)
    have hi1 : items[((i : Nat) : Int).toNat]? = some (.int a t1) := by simpa using g1
    have hi2 : items2[((i : Nat) : Int).toNat]? = some (.int a u1) := by simpa using g2
    have hc : ((i : Int) + 1) = ((i + 1 : Nat) : Int) := by push_cast; rfl
    rw [hi1, hi2]
    obtain ⟨e, he, hiff⟩ := eqAt_int A.in1 ⟨hp, g, d, tk, os⟩ a t1 a u1
    have ef : e = true := hiff.mpr rfl
    subst ef
    refine wpAny_bind (he prog w _ _ ?_)
    wp_walk
    rw [hc]
    exact ⟨plainId_quiet plain_eq_loop _, codeAny_builtin entry_eq_loop (by
      rw [Around.under_plainId plain_eq_loop _]
      exact ih (i + 1) (by omega) (by omega) prog w A R _ ⟨hl, hb, h⟩)⟩
theorem list_ltS (l b : Addr) (items items2 : Array Value) (n n2 : Nat) (dd dd2 : Option Addr) (sl sl2 : Array (Option Value)) (j : Nat) {x y : Int} {t u : Tok}
    (hpre : ∀ m, m < j → ∃ a t u, items[m]? = some (Value.int a t) ∧ items2[m]? = some (Value.int a u)) (hx : items[j]? = some (.int x t)) (hy : items2[j]? = some (.int y u)) (hxy : x < y) :
    Meets (Builtin.«list.__lt__» ⟨[.ref l, .ref b], []⟩)
      (fun _ R s => s.heap.get? l = some { cls := .type "list", dict := dd, data := .seq items n, slots := sl } ∧ s.heap.get? b = some { cls := .type "list", dict := dd2, data := .seq items2 n2, slots := sl2 } ∧ R (.ok (.ret (.bool true))) s) := by
  intro prog w A R s h
  obtain ⟨hp, g, d, tk, os⟩ := s; obtain ⟨hl, hb, h⟩ := h
  have f3 := AutoSeq1.sub_list_list
  wp_walk using wpAny_loadPart' hl, wpAny_loadPart' hb
  exact ⟨plainId_quiet plain_eq_loop _, codeAny_builtin entry_eq_loop (by
    rw [Around.under_plainId plain_eq_loop _]
    exact lt_loopS l b items items2 n n2 dd dd2 sl sl2 j hpre hx hy hxy _ 0 rfl (Nat.zero_le _) prog w A R _ ⟨hl, hb, h⟩)⟩
theorem lt_lists {prog : Program} {w : World} {A : Around} {E : Value → Shared → Prop} {s : Shared} {l b : Addr} {items items2 : Array Value} {Q : Value → Shared → Prop} (hl : s.heap.IsList l items) (hb : s.heap.IsList b items2) (j : Nat) {x y : Int} {t u : Tok}
    (hpre : ∀ m, m < j → ∃ a t u, items[m]? = some (Value.int a t) ∧ items2[m]? = some (Value.int a u)) (hx : items[j]? = some (.int x t)) (hy : items2[j]? = some (.int y u)) (hxy : x < y)
    (hu : A.units < cLine) (h : Q (.bool true) s) : wpAny (model prog w) A (compareOp .Lt (.ref l) (.ref b)) Q E s := by
  obtain ⟨⟨cls, dd, data, sl⟩, ho, hc, n, hd⟩ := id hl
  obtain ⟨⟨cls2, dd2, data2, sl2⟩, ho2, hc2, n2, hd2⟩ := id hb
  simp only at hc hd hc2 hd2
  subst hc hd hc2 hd2
  exact richCompare_meets_room (op := .Lt) ⟨_, ho, rfl⟩ ⟨_, ho2, rfl⟩ PySem.F.slot_list_lt PySem.F.entry_list_lt (PySem.F.args_list_lt_2 _ _) (list_ltS l b items items2 n n2 dd dd2 sl sl2 j hpre hx hy hxy)
    ⟨ho, ho2, show Value.bool true ≠ Value.notImplemented ∧ Q (.bool true) s from ⟨(fun x => nomatch x), h⟩⟩ hu
end HT
namespace Tn
def LtS (ns ms : List Int) : Prop := ∃ (p : List Int) (x y : Int) (c d : List Int), ns = p ++ x :: c ∧ ms = p ++ y :: d ∧ x < y
theorem LtS.app {ns ms : List Int} (h : LtS ns ms) (a b : List Int) : LtS (ns ++ a) (ms ++ b) := by
  obtain ⟨p, x, y, c, d, rfl, rfl, hx⟩ := h
  exact ⟨p, x, y, c ++ a, d ++ b, by simp, by simp, hx⟩
theorem LtS.pre {ns ms : List Int} (h : LtS ns ms) (p : List Int) : LtS (p ++ ns) (p ++ ms) := by
  obtain ⟨q, x, y, c, d, rfl, rfl, hx⟩ := h
  exact ⟨p ++ q, x, y, c, d, by simp, by simp, hx⟩
theorem LtS.head {x y : Int} (h : x < y) (c d : List Int) : LtS (x :: c) (y :: d) := ⟨[], x, y, c, d, rfl, rfl, h⟩
end Tn
namespace L2
open PySem PySem.Spec PyProof.Rows
section
variable {X : Cx}
def rLtS (K : PySem.W.Frag) : R2 := fun x y H Q => ∃ (a b : Addr) (ns ms : List Int), x = .ref a ∧ y = .ref b ∧ SqL K H a (ns.map V.int) ∧ SqL K H b (ms.map V.int) ∧ Tn.LtS ns ms ∧ Q (.bl true) H
theorem op_ltS (hu : X.A.units < cLine) : OpR X (compareOp .Lt) (rLtS X.K) := by
  intro pins s σ H x y v u Q I rx ry h
  obtain ⟨a, b, ns, ms, rfl, rfl, ha, hb, ⟨p, x0, y0, c, d, rfl, rfl, hlt⟩, q⟩ := h
  cases rx
  cases ry
  obtain ⟨its, r1, p1, _⟩ := I.list ha
  obtain ⟨its2, r2, p2, _⟩ := I.list hb
  have get : ∀ {ns : List Int} {its : List Value} (r : Vals (ns.map V.int) its) {i : Nat} {z : Int}, ns[i]? = some z → ∃ t, its.toArray[i]? = some (Value.int z t) := fun {ns its} r {i z} e => by
    obtain ⟨v, e1, rv⟩ := r.get (i := i) (x := V.int z) (by rw [List.getElem?_map, e]; rfl)
    obtain ⟨t, rfl⟩ := rv
    exact ⟨t, by simpa using e1⟩
  obtain ⟨t, ht⟩ := get r1 (i := p.length) (z := x0) (by rw [List.getElem?_append_right (Nat.le_refl _), Nat.sub_self]; rfl)
  obtain ⟨t', ht'⟩ := get r2 (i := p.length) (z := y0) (by rw [List.getElem?_append_right (Nat.le_refl _), Nat.sub_self]; rfl)
  refine HT.lt_lists p1.isList p2.isList p.length (fun m hm => ?_) ht ht' hlt hu ⟨.bl true, H, I, rfl, q⟩
  obtain ⟨t1, g1⟩ := get r1 (i := m) (z := p[m]) (by rw [List.getElem?_append_left hm, List.getElem?_eq_getElem hm])
  obtain ⟨t2, g2⟩ := get r2 (i := m) (z := p[m]) (by rw [List.getElem?_append_left hm, List.getElem?_eq_getElem hm])
  exact ⟨_, t1, t2, g1, g2⟩
end
end L2
namespace Tn
open PySem L2
mutual
def keyN : Nest → List Int
  | .word => []
  | .knot _ ps => keyL true ps
  | .bad => []
def keyL : Bool → List Nest → List Int
  | _, [] => []
  | b, n :: r => if r.isEmpty then (if b then [] else [0]) ++ keyN n else (if b then [] else [1]) ++ [((words n : Nat) : Int)] ++ keyN n ++ keyL false r
end
theorem keyL_one (b : Bool) (n : Nest) : keyL b [n] = (if b then [] else [0]) ++ keyN n := by rw [keyL]; rfl
theorem keyL_more (b : Bool) (n : Nest) {r : List Nest} (h : r ≠ []) : keyL b (n :: r) = (if b then [] else [1]) ++ [((words n : Nat) : Int)] ++ keyN n ++ keyL false r := by
  rw [keyL, if_neg]
  cases r with
  | nil => exact absurd rfl h
  | cons => simp
theorem mul_gap {x x' y y' r : Int} (hy : 0 ≤ y) (hy0 : 0 ≤ y') (hy' : y' < r) (h : x * r + y < x' * r + y') (hx : x' < x) : False := by
  have h1 : (x' + 1) * r ≤ x * r := Int.mul_le_mul_of_nonneg_right (by omega) (by omega)
  rw [Int.add_mul, Int.one_mul] at h1
  omega
theorem key_lt : ∀ (d : Nat), (∀ {n m : Nest} {k : Bool}, words n ≤ d → words n = words m → words n ≤ 60 → KO k n → KO k m → fit n = true → fit m = true → valid none n = true → valid none m = true → rkN n < rkN m → LtS (keyN n) (keyN m)) ∧
    (∀ {ps qs : List Nest} {k : Bool}, wordsL ps ≤ d → wordsL ps = wordsL qs → wordsL ps ≤ 60 → fitL ps = true → fitL qs = true → validL k ps = true → validL k qs = true → 1 ≤ ps.length → 1 ≤ qs.length → rkL false ps < rkL false qs → LtS (keyL false ps) (keyL false qs))
  | 0 => by
    refine ⟨fun {n m k} h0 h1 h2 h3 h4 h5 h6 _ _ h7 => ?_, fun {ps qs k} h0 h1 h2 h3 h4 h5 h6 h7 _ h8 => ?_⟩
    · have := words_fit h5
      omega
    · have := wordsL_fit h3
      omega
  | d + 1 => by
    obtain ⟨ihN, ihL⟩ := key_lt d
    have two : ∀ {ps qs : List Nest} {k : Bool}, wordsL ps ≤ d + 1 → wordsL ps = wordsL qs → wordsL ps ≤ 60 → fitL ps = true → fitL qs = true → validL k ps = true → validL k qs = true → 2 ≤ ps.length → 2 ≤ qs.length → rkL true ps < rkL true qs → LtS (keyL true ps) (keyL true qs) := by
      intro ps qs k h0 h1 h2 h3 h4 h5 h6 l1 l2 h8
      match ps, qs, l1, l2 with
      | n :: n2 :: r, m :: m2 :: s, _, _ =>
        have e1 : n2 :: r ≠ [] := by simp
        have e2 : m2 :: s ≠ [] := by simp
        rw [rkL_more _ _ e1, rkL_more _ _ e2, if_pos rfl, if_pos rfl] at h8
        rw [keyL_more _ _ e1, keyL_more _ _ e2]
        simp only [if_true, List.nil_append]
        rw [fitL, Bool.and_eq_true] at h3 h4
        rw [validL, Bool.and_eq_true] at h5 h6
        rw [wl_cons n] at h0 h1 h2
        rw [wl_cons m] at h1
        have b1 := more_lt h3.1 h3.2 e1 h2
        have b2 := more_lt h4.1 h4.2 e2 (by omega)
        rw [← h1] at h8 b2
        have w1 := words_fit h3.1
        have w2 := words_fit h4.1
        have wr1 := wordsL_fit h3.2
        rw [List.length_cons] at wr1
        rcases Nat.lt_trichotomy (words n) (words m) with z | z | z
        · exact ((LtS.head (show ((words n : Nat) : Int) < ((words m : Nat) : Int) by omega) [] []).app _ _).app _ _
        · have er : wordsL (n2 :: r) = wordsL (m2 :: s) := by omega
          have y1 := (rkL_lt h3.2 e1 (by omega)).1
          have y2 := (rkL_lt h4.2 e2 (by omega)).1
          rw [← z, ← er] at h8
          rw [← er] at y2
          rw [← z]
          have hxy : rkN n * Rw (wordsL (n2 :: r)) + rkL false (n2 :: r) < rkN m * Rw (wordsL (n2 :: r)) + rkL false (m2 :: s) := by omega
          rcases Int.lt_trichotomy (rkN n) (rkN m) with c | c | c
          · exact (((ihN (by omega) z (by omega) (ko_of h5.1) (ko_of h6.1) h3.1 h4.1 (valid_any h5.1) (valid_any h6.1) c).pre [((words n : Nat) : Int)]).app _ _)
          · have en := (rk_inj (words n)).1 (Nat.le_refl _) z (by omega) (ko_of h5.1) (ko_of h6.1) h3.1 h4.1 (valid_any h5.1) (valid_any h6.1) c
            subst en
            exact (ihL (k := k) (by omega) er (by omega) h3.2 h4.2 h5.2 h6.2 (by simp) (by simp) (by omega)).pre _
          · exact (mul_gap y1.1 y2.1 y2.2 hxy c).elim
        · have h9 := sumF_mono (w := words n + wordsL (n2 :: r)) (show 1 ≤ words m + 1 by omega) z
          rw [sumF_succ w2] at h9
          omega
    have nests : ∀ {n m : Nest} {k : Bool}, words n ≤ d + 1 → words n = words m → words n ≤ 60 → KO k n → KO k m → fit n = true → fit m = true → valid none n = true → valid none m = true → rkN n < rkN m → LtS (keyN n) (keyN m) := by
      intro n m k h0 h1 h2 h3 h4 h5 h6 v1 v2 h7
      rcases h3 with rfl | ⟨ps, rfl⟩
      · rcases h4 with rfl | ⟨qs, rfl⟩
        · omega
        · rw [fit, Bool.and_eq_true, decide_eq_true_eq] at h6
          have := wordsL_fit h6.2
          rw [words, words] at h1
          omega
      · rcases h4 with rfl | ⟨qs, rfl⟩
        · rw [fit, Bool.and_eq_true, decide_eq_true_eq] at h5
          have := wordsL_fit h5.2
          rw [words, words] at h1
          omega
        · rw [fit, Bool.and_eq_true, decide_eq_true_eq] at h5 h6
          rw [words] at h0 h1 h2
          rw [words] at h1
          simp only [valid, Bool.and_eq_true] at v1 v2
          rw [rkN, rkN] at h7
          rw [keyN, keyN]
          exact two h0 h1 h2 h5.2 h6.2 v1.2 v2.2 h5.1 h6.1 h7
    refine ⟨nests, ?_⟩
    intro ps qs k h0 h1 h2 h3 h4 h5 h6 l1 l2 h8
    have big : ∀ {ps : List Nest}, fitL ps = true → wordsL ps ≤ 60 → 2 ≤ ps.length → Pw (wordsL ps) ≤ rkL false ps := fun {ps} a b c => by
      rw [rkL_false c]
      have := ((rkL_lt a (List.ne_nil_of_length_pos (by omega)) b).2 c).1
      omega
    have small : ∀ {n : Nest}, fitL [n] = true → wordsL [n] ≤ 60 → rkL false [n] < Pw (wordsL [n]) := fun {n} a b => by
      rw [fitL, Bool.and_eq_true] at a
      have e : wordsL [n] = words n := by rw [wordsL, wordsL]; rfl
      rw [e] at b ⊢
      rw [rkL_one]
      exact (rkN_lt a.1 b).2
    have many : ∀ {ps : List Nest}, 2 ≤ ps.length → keyL false ps = [1] ++ keyL true ps := fun {ps} h => by
      match ps, h with
      | n :: m :: r, _ => rw [keyL_more false n (r := m :: r) (by simp), keyL_more true n (r := m :: r) (by simp)]; simp
    by_cases c1 : 2 ≤ ps.length
    · by_cases c2 : 2 ≤ qs.length
      · rw [many c1, many c2]
        rw [rkL_false c1, rkL_false c2, h1] at h8
        exact (two h0 h1 h2 h3 h4 h5 h6 c1 c2 (by omega)).pre _
      · obtain ⟨m, rfl⟩ := one_of l2 c2
        have a1 := big h3 h2 c1
        have a2 := small h4 (by omega)
        rw [h1] at a1
        omega
    · obtain ⟨n, rfl⟩ := one_of l1 c1
      by_cases c2 : 2 ≤ qs.length
      · rw [many c2, keyL_one]
        exact (LtS.head (by decide) [] []).app _ _
      · obtain ⟨m, rfl⟩ := one_of l2 c2
        rw [rkL_one, rkL_one] at h8
        rw [keyL_one, keyL_one]
        rw [fitL, Bool.and_eq_true] at h3 h4
        rw [validL, Bool.and_eq_true] at h5 h6
        have ew : ∀ x : Nest, wordsL [x] = words x := fun x => by rw [wordsL, wordsL]; rfl
        rw [ew n] at h0 h1 h2
        rw [ew m] at h1
        exact (nests (by omega) h1 h2 (ko_of h5.1) (ko_of h6.1) h3.1 h4.1 (valid_any h5.1) (valid_any h6.1) h8).pre _
mutual
theorem key_len : ∀ {n : Nest}, fit n = true → (keyN n).length + 2 ≤ 3 * words n
  | .word, _ => by rw [keyN, words]; decide
  | .bad, h => by simp [fit] at h
  | .knot k ps, hf => by
    rw [fit, Bool.and_eq_true, decide_eq_true_eq] at hf
    have h := keyL_len true hf.2 (List.ne_nil_of_length_pos (by omega))
    rw [keyN, words]
    simp only [if_true] at h
    omega
theorem keyL_len : ∀ (b : Bool) {ps : List Nest}, fitL ps = true → ps ≠ [] → (keyL b ps).length + (if b then 2 else 1) ≤ 3 * wordsL ps
  | b, [], _, h => absurd rfl h
  | b, n :: r, hf, _ => by
    rw [fitL, Bool.and_eq_true] at hf
    have h1 := key_len hf.1
    by_cases hr : r = []
    · subst hr
      rw [keyL_one, List.length_append, wl_cons, wordsL]
      cases b <;> simp <;> omega
    · have h2 := keyL_len false hf.2 hr
      rw [keyL_more _ _ hr, wl_cons]
      simp only [List.length_append, List.length_singleton]
      simp only [Bool.false_eq_true, if_false] at h2
      cases b <;> simp <;> omega
end
end Tn
namespace Tn
open PySem L2
def spKey (K : PySem.W.Frag) (d : Nat) : Sp := fun vs H Q _ => ∃ (v : V) (n : Nest) (o : Option Bool), vs = [v] ∧ NestAt K H n v ∧ valid o n = true ∧ depthN n < d ∧ words n ≤ 60 ∧ ∀ (p : Addr) (H' : Hp), H p = none → H' p = some (.lst ((keyN n).map V.int)) → Same H H' → Q (.ref p) H'
def spAhead (K : PySem.W.Frag) : Sp := fun vs H Q _ => ∃ (v u : V) (n m : Nest), vs = [v, u] ∧ NestAt K H n v ∧ NestAt K H m u ∧ valid none n = true ∧ valid none m = true ∧ words n = words m ∧ 2 ≤ words n ∧ words n ≤ 60 ∧ numN n < numN m ∧ ∀ H', Same H H' → Q (.bl true) H'
theorem knot_of_two {K : PySem.W.Frag} {H : Hp} {n : Nest} {v : V} (h : NestAt K H n v) (hv : valid none n = true) (hw : 2 ≤ words n) : ∃ (k : Bool) (ps : List Nest) (a b : Addr), n = .knot k ps ∧ v = .ref a ∧ H a = some (.tup [.str (kS k), .ref b]) := by
  cases n with
  | word => rw [words] at hw; omega
  | bad => simp [valid] at hv
  | knot k ps =>
    obtain ⟨a, b, us, rfl, ea, _⟩ := h
    exact ⟨k, ps, a, b, rfl, rfl, ea⟩
end Tn
namespace Tn
open PySem L2
def NoN (n : Nest) : Prop := ∀ o, valid o n = false
theorem non_bad : NoN .bad := fun o => by simp [valid]
theorem non_knot {k : Bool} {ps : List Nest} (h : validL k ps = false) : NoN (.knot k ps) := fun o => by simp [valid, h]
theorem non_part {k : Bool} (a b : List Nest) {n : Nest} (h : NoN n) : NoN (.knot k (a ++ [n] ++ b)) := non_knot (validL_bad a b (h _))
theorem bad_first (K : PySem.W.Frag) {H : Hp} {a : Addr} {x y : V} {t : Value} (e : H a = some (.tup [x, y])) (ht : TyOf K H x t) (hk : PySem.W.kitOne K t (.type "str") = some false) (hy : Typed K H y) : NestAt K H .bad (.ref a) := ⟨(fun z => nomatch z), .notStr e ht hk hy⟩
theorem typed_nest {K : PySem.W.Frag} {H : Hp} {n : Nest} {v : V} (h : NestAt K H n v) (hv : valid none n = true) : Typed K H v := by
  cases n with
  | word => have h : v = .non := h; subst h; exact typed_non K H
  | bad => simp [valid] at hv
  | knot k ps => obtain ⟨a, b, us, rfl, ea, _⟩ := h; exact typed_tup K ea
theorem bad_nests {K : PySem.W.Frag} {H : Hp} {b : Addr} {us : List V} {ps : List Nest} {k : Bool} (e : H b = some (.tup us)) (h : NestsAt K H ps us) (hv : validL k ps = true) : NestAt K H .bad (.ref b) := by
  by_cases hl : us.length = 2
  · match ps, us, h, hl with
    | n :: m :: r, _, ⟨v, vr, e0, h1, ⟨v2, vr2, e1, h2, h3⟩⟩, hl =>
      subst e0 e1
      have hr : vr2 = [] := by simpa using hl
      subst hr
      simp only [validL, Bool.and_eq_true] at hv
      have hy := typed_nest h2 (valid_any hv.2.1)
      cases n with
      | word => have h1 : v = .non := h1; subst h1; exact bad_none2 K e hy
      | bad => simp [valid] at hv
      | knot k2 qs =>
        obtain ⟨a, b2, us2, rfl, ea, _⟩ := h1
        exact bad_first K e (.tup ea) (kit_not K (by decide +kernel) (by decide +kernel) (by decide +kernel)) hy
    | [n], _, ⟨v, vr, e0, h1, h2⟩, hl =>
      have h2 : vr = [] := h2
      subst e0 h2
      simp at hl
    | [], _, h, hl =>
      have h : _ = [] := h
      subst h
      simp at hl
  · exact bad_len K e hl
def spWrong (K : PySem.W.Frag) : Sp := fun vs H Q _ => ∃ (v : V) (n : Nest) (c : Int), vs = [v, .int c] ∧ NestAt K H n v ∧ valid none n = true ∧ words n ≤ 60 ∧ ∀ (n' : Nest) (v' : V) (H' : Hp), NestAt K H' n' v' → NoN n' → Same H H' → Q v' H'
def spPutW (K : PySem.W.Frag) (d : Nat) : Sp := fun vs H Q _ => ∃ (v : V) (n : Nest) (l : Addr) (cs : List Int) (c : Int), vs = [v, .ref l, .int c] ∧ NestAt K H n v ∧ valid none n = true ∧ depthN n < d ∧ words n ≤ 60 ∧ SqL K H l (cs.map V.int) ∧ cs.length ≤ 100 ∧ ∀ (n' : Nest) (v' : V) (H' : Hp), NestAt K H' n' v' → NoN n' → Same H H' → Q v' H'
def spCaught (K : PySem.W.Frag) : Sp := fun vs H Q _ => (∃ (m : Nat) (z : Int), vs = [.int 0, .int (m : Int), .int z] ∧ 1 ≤ m ∧ m ≤ 60 ∧ ¬ (0 ≤ z ∧ z < Rw m) ∧ ∀ (p : Addr) (H' : Hp), H p = none → H' p = some (.lst [V.bl true, V.bl false, V.bl true, V.bl false]) → Same H H' → Q (.ref p) H') ∨
  (∃ (v : V) (n : Nest) (x : Int), vs = [.int 1, .int x, v] ∧ NestAt K H n v ∧ okN n = false ∧ ∀ (p : Addr) (H' : Hp), H p = none → H' p = some (.lst [V.bl false, V.bl true, V.bl true, V.bl false]) → Same H H' → Q (.ref p) H')
end Tn
namespace Tn
open L2 PySem PySem.W PySem.Calls PyProof.Rows PySem.Spec
def sTry0 (K : Frag) (C : Addr) (sp : Sp) (t : TA) (tH : Addr → TS) : TS := fun D σ H => t σ H fun vs H1 => sp vs H1 (fun _ H2 => D.nx σ H2) fun cls _ H2 => ∃ Dd, cls = .ref Dd ∧ ExcTxt K Dd ∧ mroIn K Dd (.ref C) = some true ∧
  ∀ x, H2 x = none → tH x { nx := fun σ' H' => D.nx σ' H', rt := fun _ _ => False } σ (upd H2 x (exO x Dd))
end Tn
namespace K44
open PySem L2 Tn
def top (i : Nat) : Stmt := PySem.Challenge.pw_turnnest_k44_neighbours_and_refusals.main.body.getD i (.Pass ⟨0, 0, 0, 0⟩)
abbrev s_is_nest : Stmt := top 12
abbrev s_is_knot : Stmt := top 13
abbrev s_must_be_nest : Stmt := top 14
abbrev s_is_of_kind : Stmt := top 15
abbrev s_count_words : Stmt := top 16
abbrev s_how_many : Stmt := top 18
abbrev s_kind_counts : Stmt := top 19
abbrev s_count_parts : Stmt := top 20
abbrev s_count_rows : Stmt := top 21
abbrev s_count_with_first : Stmt := top 22
abbrev s_number_of : Stmt := top 23
abbrev s_number_in_kind : Stmt := top 24
abbrev s_nest_at : Stmt := top 25
abbrev s_part_at : Stmt := top 26
abbrev s_law_cell_at : Stmt := top 28
abbrev s_law_whole : Stmt := top 29
abbrev s_law_join : Stmt := top 30
abbrev s_law_nest : Stmt := top 31
abbrev s_law_row : Stmt := top 32
abbrev s_law_size : Stmt := top 33
abbrev s_law_key : Stmt := top 34
abbrev s_law_ahead : Stmt := top 35
abbrev s_law_caught : Stmt := top 36
abbrev s_law_wrong : Stmt := top 37
abbrev s_law_put_wrong : Stmt := top 38
abbrev s_law : Stmt := top 39
structure Txt (mg : Str → Option Value) : Prop where
  b : Blt mg
  str : mg "str" = none
  sum : mg "sum" = none
  ve : mg "ValueError" = none
  enm : mg "enumerate" = none
section
variable {P : Program} {w : World} {K : PySem.W.Frag} {mg : Str → Option Value} {base : Heap}
abbrev sIsNest : Stmt := s_is_nest
abbrev sKnot : Stmt := s_is_knot
abbrev sMust : Stmt := s_must_be_nest
abbrev sCountW : Stmt := s_count_words
abbrev ns_count_parts : List Str := ["counts", "words"]
theorem sc_count_parts : FnScope ns_count_parts ["counts", "words"] (defScope s_count_parts) := ⟨rfl, rfl, rfl, by decide +kernel, rfl, by decide +kernel, by decide +kernel⟩
theorem ok_parts (D : Def K mg "count_parts" s_count_parts ["counts", "words"]) : Has P w K mg base CX0 1 "count_parts" ["counts", "words"] (spParts K) := by
  refine D.ok sc_count_parts (fun vs H Q E h => ?_) (fun f cdv A outer s H vs Q E hr h => ?_)
  · obtain ⟨l, c, w, rfl, _⟩ := h; rfl
  · obtain ⟨l, c, w, rfl, hl, hw, q⟩ := h
    refine ⟨_, (pss_one (ps_ret (pe_ifExp (pt_cmpR op_eq (pv 1) pe_int (nomark _)) pe_int (pe_ix ix_list (pv 0) (pv 1) (fun _ _ => rfl))))), ?_⟩
    refine ⟨_, rfl, rfl, _, rfl, ?_⟩
    unfold cptF at q
    by_cases e : w = 1
    · subst e
      exact iteT q
    · rw [if_neg e] at q
      rw [decide_eq_false (by intro z; have z : ((w : Nat) : Int) = 1 := V.int.inj z; omega)]
      exact iteF ⟨_, rfl, _, rfl, l, _, _, _, rfl, rfl, hl, getD_at hw, q⟩
abbrev ns_count_rows : List Str := ["counts", "words"]
theorem sc_count_rows : FnScope ns_count_rows ["counts", "words"] (defScope s_count_rows) := ⟨rfl, rfl, rfl, by decide +kernel, rfl, by decide +kernel, by decide +kernel⟩
theorem ok_rows (D : Def K mg "count_rows" s_count_rows ["counts", "words"]) (h_count_parts : Has P w K mg base CX0 1 "count_parts" ["counts", "words"] (spParts K)) : Has P w K mg base CX0 2 "count_rows" ["counts", "words"] (spRows K) := by
  refine D.ok sc_count_rows (fun vs H Q E h => ?_) (fun f cdv A outer s H vs Q E hr h => ?_)
  · obtain ⟨l, c, w, rfl, _⟩ := h; rfl
  · obtain ⟨l, c, w, rfl, hl, hw, q⟩ := h
    refine ⟨_, (pss_one (ps_ret (pe_op op_add (pe_has h_count_parts hr (by rfl) pass0 (pa_cons (pv 0) (pa_cons (pv 1) pa_nil))) (pe_ix ix_list (pv 0) (pv 1) (fun _ _ => rfl))))), ?_⟩
    exact ⟨_, rfl, _, rfl, l, c, w, rfl, hl, hw, _, rfl, _, rfl, l, _, _, _, rfl, rfl, hl, getD_at hw, _, _, rfl, rfl, q⟩
abbrev ns_count_with_first : List Str := ["counts", "words", "first"]
theorem sc_count_with_first : FnScope ns_count_with_first ["counts", "words", "first"] (defScope s_count_with_first) := ⟨rfl, rfl, rfl, by decide +kernel, rfl, by decide +kernel, by decide +kernel⟩
theorem big_add {a b : Int} (ha : Builtin.Int.intBits a ≤ 201) (h : cBig b) (h0 : 0 ≤ a) (h1 : a < 2 ^ 200) : Builtin.Int.intBits (a + b) ≤ 202 := by
  unfold Builtin.Int.intBits
  split
  · exact Nat.zero_le _
  · have h2 := h.1
    have h3 := h.2
    have hn : (a + b).natAbs < 2 ^ 201 := by omega
    have : (a + b).natAbs.log2 < 201 := by
      rcases Nat.eq_zero_or_pos (a + b).natAbs with h0 | hp
      · rw [h0]; decide
      · exact (Nat.log2_lt (Nat.ne_of_gt hp)).mpr hn
    omega
theorem cpt_big {c : List Int} {w : Nat} (hc : ∀ z ∈ c, cBig z) (hw : w < c.length) : cBig (cptF c w) := by
  unfold cptF
  split
  · exact ⟨by decide, by decide⟩
  · exact hc _ (getD_memT hw)
theorem ok_withfirst (D : Def K mg "count_with_first" s_count_with_first ["counts", "words", "first"]) (h_count_parts : Has P w K mg base CX0 1 "count_parts" ["counts", "words"] (spParts K)) (h_count_rows : Has P w K mg base CX0 2 "count_rows" ["counts", "words"] (spRows K)) :
    Has P w K mg base CX0 3 "count_with_first" ["counts", "words", "first"] (spWithFirst K) := by
  refine D.ok sc_count_with_first (fun vs H Q E h => ?_) (fun f cdv A outer s H vs Q E hr h => ?_)
  · obtain ⟨l, c, w, f, rfl, _⟩ := h; rfl
  · obtain ⟨l, c, w, f, rfl, hl, hfw, hf, hwf, hc, q⟩ := h
    refine ⟨_, (pss_one (ps_ret (pe_op op_mulW (pe_has h_count_parts (hr.mono (by first | decide | omega)) (by rfl) pass0 (pa_cons (pv 0) (pa_cons (pv 2) pa_nil))) (pe_has h_count_rows hr (by rfl) pass0 (pa_cons (pv 0) (pa_cons (pe_op op_sub (pv 1) (pv 2)) pa_nil)))))), ?_⟩
    refine ⟨_, rfl, _, rfl, l, c, f, rfl, hl, hf, _, rfl, _, rfl, _, rfl, _, _, rfl, rfl, l, c, w - f, ?_, hl, hwf, _, _, rfl, rfl, ?_, q⟩
    · rw [show ((w - f : Nat) : Int) = (w : Int) - (f : Int) by omega]
    · have hp := cpt_big hc hf
      have hp2 := cpt_big hc hwf
      exact IntMulOk.of_le (m := 201) (n := 202) (big_bits hp) (big_add (big_bits hp2) (hc _ (getD_memT hwf)) hp2.1 hp2.2) (by decide)
abbrev ns_kind_counts : List Str := ["many", "counts", "words"]
theorem sc_kind_counts : FnScope ns_kind_counts ["many"] (defScope s_kind_counts) := ⟨rfl, rfl, rfl, by decide +kernel, rfl, by decide +kernel, by decide +kernel⟩
def cp_kind_counts_0 (s : Stmt) : Scope := match (defBody s).getD 1 (.Pass ⟨0, 0, 0, 0⟩) with
  | .For _ _ [(.Expr (.Call _ [(.Call _ [(.ListComp _ _ sc _)] _ _)] _ _) _)] _ _ => sc
  | _ => defScope s
theorem cs_kind_counts_0 : CScope (defScope s_kind_counts) (cp_kind_counts_0 s_kind_counts) "first" ["first", "counts", "words"] ns_kind_counts [1, 2] := cs_of (by decide +kernel)
theorem ok_kinds (D : Def K mg "kind_counts" s_kind_counts ["many"]) (T : Txt mg) (h_count_with_first : Has P w K mg base CX0 3 "count_with_first" ["counts", "words", "first"] (spWithFirst K)) :
    Has P w K mg base CX0 4 "kind_counts" ["many"] spKinds := by
  refine D.ok sc_kind_counts (fun vs H Q E h => ?_) (fun f cdv A outer s H vs Q E hr h => ?_)
  · obtain ⟨m, rfl, _⟩ := h; rfl
  · obtain ⟨m, rfl, m1, m2, q⟩ := h
    refine ⟨_, (pss_cons (ps_set (i := 1) sc_kind_counts.nd rfl (Or.inr rfl) (pe_lst (pa_cons pe_int (pa_cons pe_int pa_nil))))
      (pss_cons (ps_for PassesOwn.never rfl (pi_range2 rfl T.b.rng (pa_cons pe_int (pa_cons (pe_op op_add (pv 0) pe_int) pa_nil))) (pg_name (i := 2) sc_kind_counts.nd rfl (Or.inr rfl)) (pss_one (ps_expr (pe_bm PySem.F.plainAttrs_list PySem.F.slot_list_append PySem.F.type_list_append mt_append (pv 1) (pa_cons (pe_callB (call_sumL rfl) (by rfl) T.sum boot_sum (pa_cons (pe_comp rfl cs_kind_counts_0 rfl (pi_range2 rfl T.b.rng (pa_cons pe_int (pa_cons (pv 2) pa_nil))) (fun cl C fp s H => pg_name (i := 0) cs_kind_counts_0.nd rfl (Or.inl rfl)) (fun cl C fp s H => pts_nil) (fun cl C fp s H => (pe_has h_count_with_first hr (by rfl) pass0 (pa_cons (pv 1) (pa_cons (pv 2) (pa_cons (pv 0) pa_nil)))))) pa_nil)) pa_nil)))))
      (pss_one (ps_ret (pv 1))))), ?_⟩
    refine ⟨(by show 2 ≤ sizeLine; decide), fun cl hcl => ?_⟩
    refine ⟨_, rfl, _, _, rfl, rfl, 2, (m : Int) + 1, rfl, ⟨by decide, by decide, by omega, by omega⟩, ?_⟩
    rw [show ((m : Int) + 1 - 2).toNat = m - 1 by omega]
    refine for_range (n := m - 1) (lo := 2) (fun i σ Hx => ∃ v : Option V, σ = [some (.int (m : Int)), some (.ref cl), v] ∧ Same H Hx ∧ Hx cl = some (.lst ((tab.take (i + 2)).map V.int))) ⟨none, rfl, same_upd hcl, upd_same⟩ ?_ ?_
    · rintro i σ Hx hi ⟨v, rfl, sx, eC⟩
      refine ⟨_, rfl, .inl ⟨rfl, _, SqL.of eC⟩, _, rfl, 1, 2 + (i : Int), rfl, ⟨by decide, by decide, by omega, by omega⟩, fun D hD => ?_⟩
      have nCD : cl ≠ D := ne_of_none eC hD
      rw [show (2 + (i : Int) - 1).toNat = i + 1 by omega]
      refine comp_range (fun j => V.int (cwfF tab (i + 2) (1 + j))) (line1000 (by omega)) ?_ ?_
      · intro j acc R hj hR
        refine ⟨_, rfl, _, rfl, _, rfl, cl, tab.take (i + 2), i + 2, 1 + j, ?_, SqL.of (by rw [upd_ne nCD]; exact eC), by omega, ?_, ?_, fun z hz => tab_small z (List.mem_of_mem_take hz), ?_⟩
        · rw [show ((i + 2 : Nat) : Int) = 2 + (i : Int) by omega, show ((1 + j : Nat) : Int) = 1 + (j : Int) by omega]
        · rw [List.length_take, tab_len]; omega
        · rw [List.length_take, tab_len]; omega
        · rw [cwf_take (by omega) (by omega)]
          exact hR
      · have em : ((List.range (i + 1)).map fun j => V.int (cwfF tab (i + 2) (1 + j))) = (((List.range (i + 1)).map fun j => cwfF tab (i + 2) (1 + j))).map V.int := by
          rw [List.map_map]; rfl
        rw [em]
        refine ⟨D, _, rfl, SqL.of upd_same, ?_⟩
        rw [← tab_step (by omega)]
        refine ⟨cl, _, _, rfl, rfl, by rw [upd_ne nCD]; exact eC, ?_, ?_⟩
        · rw [List.length_map, List.length_take, tab_len]
          exact small1000 (by omega)
        · refine ⟨_, rfl, fun b o e => ?_, ?_⟩
          · rw [upd_ne (ne_of_none e hcl), upd_ne (ne_of_none (sx b o e) hD)]
            exact sx b o e
          · rw [upd_same, show i + 1 + 2 = i + 2 + 1 by omega, take_snoc (k := i + 2) (by rw [tab_len]; omega), List.map_append]
            rfl
    · rintro σ Hx ⟨v, rfl, sx, eC⟩
      rw [show m - 1 + 2 = m + 1 by omega] at eC
      exact ⟨_, rfl, q cl Hx hcl eC sx⟩
abbrev ns_how_many : List Str := ["many"]
theorem sc_how_many : FnScope ns_how_many ["many"] (defScope s_how_many) := ⟨rfl, rfl, rfl, by decide +kernel, rfl, by decide +kernel, by decide +kernel⟩
theorem ok_howmany (D : Def K mg "how_many" s_how_many ["many"]) (h_count_rows : Has P w K mg base CX0 2 "count_rows" ["counts", "words"] (spRows K)) (h_kind_counts : Has P w K mg base CX0 4 "kind_counts" ["many"] spKinds) :
    Has P w K mg base CX0 5 "how_many" ["many"] (spHowMany fun m => wtab.getD m 0) := by
  refine D.ok sc_how_many (fun vs H Q E h => ?_) (fun f cdv A outer s H vs Q E hr h => ?_)
  · obtain ⟨m, rfl, _⟩ := h; rfl
  · obtain ⟨m, rfl, m1, m2, q⟩ := h
    refine ⟨_, (pss_one (ps_ret (pe_has h_count_rows (hr.mono (by first | decide | omega)) (by rfl) pass0 (pa_cons (pe_has h_kind_counts hr (by rfl) pass0 (pa_cons (pv 0) pa_nil)) (pa_cons (pv 0) pa_nil))))), ?_⟩
    refine ⟨_, rfl, m, rfl, m1, m2, fun l H' nl el s1 => ⟨_, rfl, l, _, m, rfl, SqL.of el, by rw [List.length_take, tab_len]; omega, ?_⟩⟩
    have e : crowF (tab.take (m + 1)) m = wtab.getD m 0 := by
      rw [← (tab_both m1 m2).1]
      unfold crowF
      rw [cpt_take (by omega), getD_take (by omega)]
    rw [e]
    exact q _ s1
theorem scKnot : FnScope ["thing"] ["thing"] (defScope sKnot) := ⟨rfl, rfl, rfl, by decide +kernel, rfl, by decide +kernel, by decide +kernel⟩
theorem ok_knot {f : Addr} {fd : FuncData} (F : Fun K "is_knot" "is_knot" sKnot f fd) (T : Txt mg) : FnOk P w K mg base CX0 1 f fd ["thing"] (spKnot K) := by
  refine F.ok scKnot (fun vs H Q E h => ?_) (fun cdv A outer s H vs Q E hr h => ?_)
  · obtain ⟨v, rfl, _⟩ := h; rfl
  · obtain ⟨v, rfl, h⟩ := h
    refine ⟨_, (pss_cons (ps_if (pw_or (pt_not (pt_val (pe_callB call_isi (by rfl) T.b.isi boot_isi (pa_cons (pv 0) (pa_cons (pe_bltn (v := .ty "tuple") (by rfl) T.b.tup boot_ty_tuple rfl) pa_nil))))) (pw_or1 (pt_cmpR op_ne (pe_callB call_len_seq (by rfl) T.b.len PySem.boot_len (pa_cons (pv 0) pa_nil)) pe_int (nomark _)))).pt (pss_one (ps_ret pe_bl)) pss_nil)
      (pss_cons (ps_if (pw_or (pt_not (pt_val (pe_callB call_isi (by rfl) T.b.isi boot_isi (pa_cons (pe_ix ix_tup (pv 0) pe_int (fun _ _ => rfl)) (pa_cons (pe_bltn (v := .ty "str") (by rfl) T.str boot_ty_str rfl) pa_nil))))) (pw_or1 (pt_cmpR op_notIn_seq (pe_ix ix_tup (pv 0) pe_int (fun _ _ => rfl)) (pe_tup (pa_cons pe_str (pa_cons pe_str pa_nil))) rfl))).pt (pss_one (ps_ret pe_bl)) pss_nil)
      (pss_one (ps_ret (pe_and (pe_callB call_isi (by rfl) T.b.isi boot_isi (pa_cons (pe_ix ix_tup (pv 0) pe_int (fun _ _ => rfl)) (pa_cons (pe_bltn (v := .ty "tuple") (by rfl) T.b.tup boot_ty_tuple rfl) pa_nil))) (pe_one (pe_cmpR op_ge (pe_callB call_len_seq (by rfl) T.b.len PySem.boot_len (pa_cons (pe_ix ix_tup (pv 0) pe_int (fun _ _ => rfl)) pa_nil)) pe_int (nomark _)))))))), ?_⟩
    rcases h with ⟨h, q⟩ | ⟨a, b, k, us, rfl, e1, e2, h2, hz, q⟩
    · cases h with
      | ty t k => exact ⟨_, rfl, _, _, _, _, rfl, t, k, _, rfl, iteT (iteT (q _ (Same.refl _)))⟩
      | @len a xs e k =>
        refine ⟨_, rfl, _, _, _, _, rfl, .tup e, kit_same _ _, _, rfl, iteF ?_⟩
        refine ⟨_, rfl, a, _, rfl, .inr (SqT.of e), rfl, _, rfl, ?_⟩
        rw [decide_eq_false (by intro z; have z : ((xs.length : Nat) : Int) = 2 := V.int.inj z; omega)]
        exact iteT (q _ (Same.refl _))
      | @notStr a x y t e ty k _ =>
        refine ⟨_, rfl, _, _, _, _, rfl, .tup e, kit_same _ _, _, rfl, iteF ?_⟩
        refine ⟨_, rfl, a, _, rfl, .inr (SqT.of e), rfl, _, rfl, iteF ?_⟩
        exact ⟨_, rfl, a, _, 0, _, rfl, rfl, SqT.of e, rfl, _, _, _, _, rfl, ty, k, _, rfl, iteT (iteT (q _ (Same.refl _)))⟩
      | @kind a z y e n1 n2 _ =>
        refine ⟨_, rfl, _, _, _, _, rfl, .tup e, kit_same _ _, _, rfl, iteF ?_⟩
        refine ⟨_, rfl, a, _, rfl, .inr (SqT.of e), rfl, _, rfl, iteF ?_⟩
        refine ⟨_, rfl, a, _, 0, _, rfl, rfl, SqT.of e, rfl, _, _, _, _, rfl, .str z, kit_same _ _, _, rfl, iteF ?_⟩
        refine ⟨_, rfl, a, _, 0, _, rfl, rfl, SqT.of e, rfl, (by show 2 ≤ sizeLine; decide), fun p hp => ⟨p, _, rfl, .inr (SqT.of upd_same), rfl, rfl, _, rfl, ?_⟩⟩
        rw [kS_notIn n1 n2]
        exact iteT (q _ (same_upd hp))
      | @notTup a k y t e ty kt =>
        refine ⟨_, rfl, _, _, _, _, rfl, .tup e, kit_same _ _, _, rfl, iteF ?_⟩
        refine ⟨_, rfl, a, _, rfl, .inr (SqT.of e), rfl, _, rfl, iteF ?_⟩
        refine ⟨_, rfl, a, _, 0, _, rfl, rfl, SqT.of e, rfl, _, _, _, _, rfl, .str _, kit_same _ _, _, rfl, iteF ?_⟩
        refine ⟨_, rfl, a, _, 0, _, rfl, rfl, SqT.of e, rfl, (by show 2 ≤ sizeLine; decide), fun p hp => ⟨p, _, rfl, .inr (SqT.of upd_same), rfl, rfl, _, rfl, ?_⟩⟩
        rw [kS_in]
        refine iteF ?_
        have e' : (upd H p (.tup [V.str "+", V.str "-"])) a = some (.tup [V.str (kS k), y]) := same_upd hp _ _ e
        exact ⟨_, rfl, a, _, 1, _, rfl, rfl, SqT.of e', rfl, _, _, _, _, rfl, Same.ty (same_upd hp) ty, kt, _, rfl, iteF (q _ (same_upd hp))⟩
      | @few a b k xs e1 e2 hlt =>
        refine ⟨_, rfl, _, _, _, _, rfl, .tup e1, kit_same _ _, _, rfl, iteF ?_⟩
        refine ⟨_, rfl, a, _, rfl, .inr (SqT.of e1), rfl, _, rfl, iteF ?_⟩
        refine ⟨_, rfl, a, _, 0, _, rfl, rfl, SqT.of e1, rfl, _, _, _, _, rfl, .str _, kit_same _ _, _, rfl, iteF ?_⟩
        refine ⟨_, rfl, a, _, 0, _, rfl, rfl, SqT.of e1, rfl, (by show 2 ≤ sizeLine; decide), fun p hp => ⟨p, _, rfl, .inr (SqT.of upd_same), rfl, rfl, _, rfl, ?_⟩⟩
        rw [kS_in]
        refine iteF ?_
        have e1' : (upd H p (.tup [V.str "+", V.str "-"])) a = some (.tup [V.str (kS k), .ref b]) := same_upd hp _ _ e1
        have e2' : (upd H p (.tup [V.str "+", V.str "-"])) b = some (.tup xs) := same_upd hp _ _ e2
        refine ⟨_, rfl, a, _, 1, _, rfl, rfl, SqT.of e1', rfl, _, _, _, _, rfl, .tup e2', kit_same _ _, _, rfl, iteT ?_⟩
        refine ⟨_, rfl, a, _, 1, _, rfl, rfl, SqT.of e1', rfl, b, _, rfl, .inr (SqT.of e2'), _, _, rfl, rfl, ?_⟩
        show Q (V.bl (decide ((2 : Int) ≤ (xs.length : Int)))) _
        rw [decide_eq_false (by omega)]
        exact q _ (same_upd hp)
    · refine ⟨_, rfl, _, _, _, _, rfl, .tup e1, kit_same _ _, _, rfl, iteF ?_⟩
      refine ⟨_, rfl, a, _, rfl, .inr (SqT.of e1), rfl, _, rfl, iteF ?_⟩
      refine ⟨_, rfl, a, _, 0, _, rfl, rfl, SqT.of e1, rfl, _, _, _, _, rfl, .str _, kit_same _ _, _, rfl, iteF ?_⟩
      refine ⟨_, rfl, a, _, 0, _, rfl, rfl, SqT.of e1, rfl, (by show 2 ≤ sizeLine; decide), fun p hp => ⟨p, _, rfl, .inr (SqT.of upd_same), rfl, rfl, _, rfl, ?_⟩⟩
      rw [kS_in]
      refine iteF ?_
      have e1' : (upd H p (.tup [V.str "+", V.str "-"])) a = some (.tup [V.str (kS k), .ref b]) := same_upd hp _ _ e1
      have e2' : (upd H p (.tup [V.str "+", V.str "-"])) b = some (.tup us) := same_upd hp _ _ e2
      refine ⟨_, rfl, a, _, 1, _, rfl, rfl, SqT.of e1', rfl, _, _, _, _, rfl, .tup e2', kit_same _ _, _, rfl, iteT ?_⟩
      refine ⟨_, rfl, a, _, 1, _, rfl, rfl, SqT.of e1', rfl, b, _, rfl, .inr (SqT.of e2'), _, _, rfl, rfl, ?_⟩
      show Q (V.bl (decide ((2 : Int) ≤ (us.length : Int)))) _
      rw [decide_eq_true (by omega)]
      exact q _ (same_upd hp)
def isnComp (s : Stmt) : Scope := match (defBody s).getD 2 (.Pass ⟨0, 0, 0, 0⟩) with
  | .While _ [_, _, .If _ _ [.If _ [.Expr (.Call _ [.ListComp _ _ sc _] _ _) _] _ _] _] _ _ => sc
  | _ => defScope s
abbrev nsIsNest : List Str := ["thing", "words", "waiting", "entry"]
theorem scIsNest : FnScope nsIsNest ["thing"] (defScope sIsNest) := ⟨rfl, rfl, rfl, by decide +kernel, rfl, by decide +kernel, by decide +kernel⟩
theorem csIsNest : CScope (defScope sIsNest) (isnComp sIsNest) "part" ["part", "entry"] nsIsNest [3] := cs_of (by decide +kernel)
theorem ok_isnest {f fK : Addr} {fd fdK : FuncData} {mw : Tok} (F : Fun K "is_nest" "is_nest" sIsNest f fd) (T : Txt mg) (GK : FnOk P w K mg base CX0 1 fK fdK ["thing"] (spKnot K)) (kK : PySem.W.keepIn K (.ref fK) = true) (mK : mg "is_knot" = some (.ref fK)) (bK : Binds K fdK ["thing"] [])
    (mM : mg "MOST_WORDS" = some (.int 60 mw)) : FnOk P w K mg base CX0 2 f fd ["thing"] (spIsNest K) := by
  refine F.ok scIsNest (fun vs H Q E h => ?_) (fun cdv A outer s H vs Q E hr h => ?_)
  · obtain ⟨v, n, rfl, _⟩ := h; rfl
  · obtain ⟨v, n, rfl, hN, q⟩ := h
    refine ⟨_, (pss_cons (ps_set (i := 1) scIsNest.nd rfl (Or.inl rfl) pe_int)
      (pss_cons (ps_set (i := 2) scIsNest.nd rfl (Or.inl rfl) (pe_lst (pa_cons (pe_tup (pa_cons (pv 0) (pa_cons pe_str pa_nil))) pa_nil)))
      (pss_cons (ps_while PassesOwn.never (pt_truth (pv 2) (fun _ => rfl))
        (pss_cons (ps_if (pt_cmpR op_gt (pe_op op_add (pv 1) (pe_callB call_len_seq (by rfl) T.b.len PySem.boot_len (pa_cons (pv 2) pa_nil))) (pe_glob (v := .int 60) (by rfl) mM ⟨mw, rfl⟩) (nomark _)) (pss_one (ps_ret pe_bl)) pss_nil)
      (pss_cons (ps_set (i := 3) scIsNest.nd rfl (Or.inr rfl) (pe_bm0 PySem.F.plainAttrs_list PySem.F.slot_list_pop PySem.F.type_list_pop mt_pop (pv 2)))
      (pss_one (ps_if (pt_cmpR op_isN (pe_ix ix_tup (pv 3) pe_int (fun _ _ => rfl)) pe_non (nomark _)) (pss_one (ps_aug (i := 1) scIsNest.nd rfl (Or.inl rfl) pe_int ip_add))
              (pss_one (ps_if (pw_and (pt_val (pe_call GK hr (by rfl) mK kK bK .nil pass0 (pa_cons (pe_ix ix_tup (pv 3) pe_int (fun _ _ => rfl)) pa_nil))) (pw_and1 (pt_cmpR op_ne (pe_ix ix_tup (pe_ix ix_tup (pv 3) pe_int (fun _ _ => rfl)) pe_int (fun _ _ => rfl)) (pe_ix ix_tup (pv 3) pe_int (fun _ _ => rfl)) (nomark _)))).pt
                (pss_one (ps_expr (pe_bm PySem.F.plainAttrs_list PySem.F.slot_list_extend PySem.F.type_list_extend mt_extend (pv 2) (pa_cons (pe_comp rfl csIsNest rfl (pi_tup (pe_ix ix_tup (pe_ix ix_tup (pv 3) pe_int (fun _ _ => rfl)) pe_int (fun _ _ => rfl))) (fun cl C fp s H => pg_name (i := 0) csIsNest.nd rfl (Or.inl rfl)) (fun cl C fp s H => pts_nil)
                  (fun cl C fp s H => pe_tup (pa_cons (pv 0) (pa_cons (pe_ix (r := rIxT K) ix_tup (pe_ix (r := rIxT K) ix_tup (pv 1) pe_int (fun _ _ => rfl)) pe_int (fun _ _ => rfl)) pa_nil)))) pa_nil))))
                (pss_one (ps_ret pe_bl)))))))))
      (pss_one (ps_ret pe_bl))))), ?_⟩
    refine ⟨_, rfl, (by show 2 ≤ sizeLine; decide), fun t0 ht0 => ⟨(by show 1 ≤ sizeLine; decide), fun wl hwl => ?_⟩⟩
    have hw0 : H wl = none := (same_upd ht0).free hwl
    have sU : ∀ (G : Hp) (o : HO), Same H G → Same H (upd G wl o) := fun G o h b ob e => by rw [upd_ne (ne_of_none e hw0)]; exact h b ob e
    refine ⟨fun m σ H' => ∃ (st : List (Nest × Option Bool)) (ts : List Addr) (wd : Nat) (v3 : Option V), σ = [some v, some (.int (wd : Int)), some (.ref wl), v3] ∧ Same H H' ∧ H' wl = some (.lst (ts.reverse.map V.ref)) ∧ WaitAt K H' st ts ∧ m = waitS st ∧ wd ≤ 60 ∧ okN n = (waitOk st && decide (wd + waitW st ≤ 60)),
      ⟨waitS [(n, none)], [(n, none)], [t0], 0, none, rfl, sU _ _ (same_upd ht0), upd_same, ⟨t0, [], v, rfl, ?_, ?_, rfl⟩, rfl, by decide, ?_⟩, ?_⟩
    · rw [upd_ne (ne_of_none upd_same hwl)]; exact upd_same
    · exact (hN.mono (same_upd ht0)).mono (same_upd hwl)
    · unfold okN waitOk waitW
      simp
    rintro m σ H' ⟨st, ts, wd, v3, rfl, sx, eW, hWt, rfl, hwd, hok⟩
    have hlen := hWt.len
    have hww := hWt.words
    cases st with
    | nil =>
      have e0 : ts = [] := hWt
      subst e0
      refine ⟨_, rfl, false, .inl ⟨_, SqL.of eW, rfl⟩, iteF ?_⟩
      have : okN n = true := by
        rw [hok]
        show (true && decide (wd + 0 ≤ 60)) = true
        simp
        omega
      rw [this] at q
      exact q _ sx
    | cons p r =>
      obtain ⟨t, tr, u, e0, h1, h2, h3⟩ := hWt
      subst e0
      have hrl : (tr.reverse.map V.ref ++ [V.ref t]) = ((t :: tr).reverse.map V.ref) := by simp
      rw [← hrl] at eW
      have hlr := h3.len
      refine ⟨_, rfl, true, .inl ⟨_, SqL.of eW, (by simp)⟩, iteT ?_⟩
      refine ⟨fun σ' Hx => ∃ (st : List (Nest × Option Bool)) (ts : List Addr) (wd : Nat) (v3 : Option V), σ' = [some v, some (.int (wd : Int)), some (.ref wl), v3] ∧ Same H Hx ∧ Hx wl = some (.lst (ts.reverse.map V.ref)) ∧ WaitAt K Hx st ts ∧ waitS st < waitS (p :: r) ∧ wd ≤ 60 ∧ okN n = (waitOk st && decide (wd + waitW st ≤ 60)), ?_, ?_⟩
      · rintro σ' Hx ⟨st, ts, wd', v3', e, a1, a2, a3, a4, a5, a6⟩
        exact ⟨_, a4, st, ts, wd', v3', e, a1, a2, a3, rfl, a5, a6⟩
      have hcount : (tr.reverse.map V.ref ++ [V.ref t]).length = (p :: r).length := by simp; omega
      refine ⟨_, rfl, _, rfl, wl, _, rfl, .inl (SqL.of eW), _, _, rfl, rfl, _, _, rfl, rfl, _, rfl, ?_⟩
      by_cases hbig : 60 < (wd : Int) + ((tr.reverse.map V.ref ++ [V.ref t]).length : Int)
      · rw [decide_eq_true hbig]
        refine iteT ?_
        have : okN n = false := by
          rw [hok]
          have : ¬ (wd + waitW (p :: r) ≤ 60) := by omega
          simp [this]
        rw [this] at q
        exact q _ sx
      rw [decide_eq_false hbig]
      refine iteF ?_
      refine ⟨_, rfl, .inl ⟨rfl, _, SqL.of eW⟩, wl, _, V.ref t, rfl, rfl, eW, (by simp), ?_⟩
      rw [List.dropLast_concat]
      have eW1 : (upd H' wl (.lst (tr.reverse.map V.ref))) wl = some (.lst (tr.reverse.map V.ref)) := upd_same
      have s1 := sU _ (.lst (tr.reverse.map V.ref)) sx
      have h1' : (upd H' wl (.lst (tr.reverse.map V.ref))) t = some (.tup [u, .str (aS p.2)]) := by rw [upd_ne (ne_of h1 eW (by intro z; cases z))]; exact h1
      have h2' := NestAt.updL (vs := tr.reverse.map V.ref) eW h2
      have h3' := WaitAt.updL (vs := tr.reverse.map V.ref) eW h3
      generalize upd H' wl (.lst (tr.reverse.map V.ref)) = H1 at eW1 s1 h1' h2' h3' ⊢
      have hsz : waitS (p :: r) = sizeN p.1 + waitS r := by simp [waitS]
      have hwz : waitW (p :: r) = words p.1 + waitW r := by simp [waitW]
      have hoz : waitOk (p :: r) = (valid p.2 p.1 && waitOk r) := by simp [waitOk]
      rw [hwz, hoz] at hok
      have hsp := size_pos p.1
      simp only [List.length_cons] at hcount
      have hlw := h3'.words
      obtain ⟨pn, po⟩ := p
      cases pn with
      | word =>
        have hu : u = .non := h2'
        subst hu
        refine ⟨_, rfl, t, _, 0, _, rfl, rfl, SqT.of h1', rfl, rfl, _, rfl, iteT ?_⟩
        refine ⟨_, rfl, _, _, rfl, rfl, ?_⟩
        refine ⟨r, tr, wd + 1, _, rfl, s1, eW1, h3', by rw [hsz]; omega, by omega, ?_⟩
        rw [hok]
        have : decide (wd + (words Nest.word + waitW r) ≤ 60) = decide (wd + 1 + waitW r ≤ 60) := by
          have : words Nest.word = 1 := by simp [words]
          rw [this]
          congr 1
          simp only [eq_iff_iff]
          omega
        rw [this]
        simp [valid]
      | bad =>
        obtain ⟨hu, hk⟩ := h2'
        refine ⟨_, rfl, t, _, 0, _, rfl, rfl, SqT.of h1', rfl, rfl, _, rfl, ?_⟩
        rw [decide_eq_false hu]
        refine iteF ⟨_, rfl, t, _, 0, _, rfl, rfl, SqT.of h1', rfl, u, rfl, .inl ⟨hk, fun H2 s2 => ⟨_, rfl, iteF (iteF ?_)⟩⟩⟩
        have : okN n = false := by rw [hok]; simp [valid]
        rw [this] at q
        exact q _ (s1.trans s2)
      | knot k ps =>
        obtain ⟨a, b, us, rfl, ea, eb, hu2, hu3, hps⟩ := h2'
        refine ⟨_, rfl, t, _, 0, _, rfl, rfl, SqT.of h1', rfl, rfl, _, rfl, iteF ?_⟩
        refine ⟨_, rfl, t, _, 0, _, rfl, rfl, SqT.of h1', rfl, _, rfl, .inr ⟨a, b, k, us, rfl, ea, eb, hu2, hu3, fun H2 s2 => ⟨_, rfl, iteT ?_⟩⟩⟩
        have h1'' := s2 _ _ h1'
        have ea' := s2 _ _ ea
        have eb' := s2 _ _ eb
        refine ⟨_, rfl, t, _, 0, _, rfl, rfl, SqT.of h1'', rfl, a, _, 0, _, rfl, rfl, SqT.of ea', rfl, _, rfl, t, _, 1, _, rfl, rfl, SqT.of h1'', rfl, rfl, _, rfl, ?_⟩
        rw [kS_ne]
        by_cases hsame : po = some k
        · rw [decide_eq_true hsame]
          refine iteF ?_
          have : okN n = false := by rw [hok]; simp [valid, hsame]
          rw [this] at q
          exact q _ (s1.trans s2)
        rw [decide_eq_false hsame]
        refine iteT ?_
        have eW2 := s2 _ _ eW1
        have S2 := s1.trans s2
        have hps' := NestsAt.mono s2 hps
        have h3'' := h3'.mono s2
        refine ⟨_, rfl, .inl ⟨rfl, _, SqL.of eW2⟩, _, rfl, t, _, 0, _, rfl, rfl, SqT.of h1'', rfl, a, _, 1, _, rfl, rfl, SqT.of ea', rfl, b, rfl, ⟨_, SqT.of eb'⟩, fun D hD => ?_⟩
        have hpl := hps'.len
        refine comp_inv (n := us.length) (fun i acc Hc => ∃ ts' : List Addr, acc = ts'.map V.ref ∧ ts'.length = i ∧ Hc D = some (.lst acc) ∧ Same H2 Hc ∧ WaitAt K Hc (within k (ps.take i)) ts') ⟨[], rfl, rfl, upd_same, same_upd hD, rfl⟩ ?_ (line1000 hu3) ?_ ?_ ?_
        · rintro i acc Hc ⟨ts', rfl, hl, e, _⟩
          exact ⟨e, by rw [List.length_map, hl]⟩
        · rintro i acc Hc hi ⟨ts', rfl, hl, e, sc, _⟩
          exact ⟨us, us[i], SqT.of (sc _ _ eb'), List.getElem?_eq_getElem hi⟩
        · rintro acc Hc ⟨ts', rfl, hl, e, sc, hw⟩
          refine ⟨⟨us, SqT.of (sc _ _ eb'), Nat.le_refl _⟩, ?_⟩
          rw [← hpl, List.take_length] at hw
          refine ⟨wl, D, _, _, rfl, rfl, sc _ _ eW2, e, line_mil (by simp; omega), ?_⟩
          have eWc := sc _ _ eW2
          refine ⟨(within k ps).reverse ++ r, ts'.reverse ++ tr, wd, _, rfl, sU _ _ (S2.trans sc), ?_, ?_, ?_, hwd, ?_⟩
          · rw [upd_same]
            simp
          · exact WaitAt.updL eWc (WaitAt.app hw.rev (h3''.mono sc))
          · rw [waitS_app, waitS_rev, within_s, hsz]
            simp only [sizeN]
            omega
          · rw [hok, waitW_app, waitW_rev, within_w, waitOk_app, waitOk_rev, within_ok]
            have hv : valid po (Nest.knot k ps) = validL k ps := by simp [valid, hsame]
            have hwk : words (Nest.knot k ps) = wordsL ps := by simp [words]
            show (valid po (Nest.knot k ps) && waitOk r && decide (wd + (words (Nest.knot k ps) + waitW r) ≤ 60)) = _
            rw [hv, hwk]
        · rintro i acc Hc y H5 R hi ⟨ts', rfl, hl, e, sc, hw⟩ ⟨rfl, hy⟩ hR
          have hyi := hy _ (SqT.of (sc _ _ eb'))
          obtain ⟨nn, hnn, hnv⟩ := hps'.get hyi
          refine ⟨_, rfl, _, rfl, t, _, 0, _, rfl, rfl, SqT.of (sc _ _ h1''), rfl, a, _, 0, _, rfl, rfl, SqT.of (sc _ _ ea'), rfl, (by show 2 ≤ sizeLine; decide), fun q1 hq1 => hR _ _ (same_upd hq1 _ _ e) ?_⟩
          refine ⟨ts' ++ [q1], by simp, by simp [hl], upd_same, fun b' o' e' => ?_, ?_⟩
          · rw [upd_ne (ne_of_none e' hD)]
            exact same_upd hq1 _ _ (sc _ _ e')
          · have hcat : within k (ps.take (i + 1)) = within k (ps.take i) ++ [(nn, some k)] := by
              rw [List.take_succ, hnn]
              simp [within]
            rw [hcat]
            refine WaitAt.updL (same_upd hq1 _ _ e) (WaitAt.app (hw.mono (same_upd hq1)) ⟨q1, [], y, rfl, upd_same, ?_, rfl⟩)
            exact (hnv.mono sc).mono (same_upd hq1)
theorem scMust : FnScope ["thing"] ["thing"] (defScope sMust) := ⟨rfl, rfl, rfl, by decide +kernel, rfl, by decide +kernel, by decide +kernel⟩
theorem ok_must {f fN C : Addr} {fd fdN : FuncData} (F : Fun K "must_be_nest" "must_be_nest" sMust f fd) (GN : FnOk P w K mg base CX0 2 fN fdN ["thing"] (spIsNest K)) (kN : PySem.W.keepIn K (.ref fN) = true) (mN : mg "is_nest" = some (.ref fN)) (bN : Binds K fdN ["thing"] [])
    (mC : mg "NoNest" = some (.ref C)) (xC : PySem.W.excIn K C bmVE "ValueError.__new__" = true) : FnOk P w K mg base (CXV P w) 3 f fd ["thing"] (spMust K C) := by
  refine funV F scMust (fun vs H Q E h => ?_) (fun cdv A outer s H vs Q E hr h => ?_)
  · obtain ⟨v, n, rfl, _⟩ := h; rfl
  · obtain ⟨v, n, rfl, hN, q, qE⟩ := h
    refine ⟨_, (pss_one (ps_if (pt_not (pt_val (pe_call GN hr (by rfl) mN kN bN .nil pass0 (pa_cons (pv 0) pa_nil)))) (pss_one (ps_raise throwV rfl (by rfl) mC xC (pa_cons pe_str pa_nil))) pss_nil)), ?_⟩
    refine ⟨_, rfl, v, n, rfl, hN, fun H1 s1 => ⟨_, rfl, ?_⟩⟩
    cases ho : okN n with
    | true => exact iteF (q ho _ s1)
    | false => exact iteT ⟨(by show 1 ≤ sizeLine; decide), qE ho _ s1⟩
theorem has_must {C : Addr} {mw : Tok} (D0 : Def K mg "is_nest" s_is_nest ["thing"]) (D1 : Def K mg "is_knot" s_is_knot ["thing"]) (D2 : Def K mg "must_be_nest" s_must_be_nest ["thing"]) (T : Txt mg) (mM : mg "MOST_WORDS" = some (.int 60 mw)) (mC : mg "NoNest" = some (.ref C)) (xC : PySem.W.excIn K C bmVE "ValueError.__new__" = true) :
    Has P w K mg base (CXV P w) 3 "must_be_nest" ["thing"] (spMust K C) := by
  obtain ⟨f0, fd0, F0, k0, m0, b0⟩ := D0.ex
  obtain ⟨f1, fd1, F1, k1, m1, b1⟩ := D1.ex
  obtain ⟨f2, fd2, F2, k2, m2, b2⟩ := D2.ex
  exact ⟨f2, fd2, ok_must F2 (ok_isnest F0 T (ok_knot F1 T) k1 m1 b1 mM) k0 m0 b0 mC xC, k2, m2, b2⟩
def cwComp (s : Stmt) : Scope := match (defBody s).getD 1 (.Pass ⟨0, 0, 0, 0⟩) with
  | .Return (some (.Call _ [.ListComp _ _ sc _] _ _)) _ => sc
  | _ => defScope s
theorem scCountW : FnScope ["nest"] ["nest"] (defScope sCountW) := ⟨rfl, rfl, rfl, by decide +kernel, rfl, by decide +kernel, by decide +kernel⟩
theorem csCountW : CScope (defScope sCountW) (cwComp sCountW) "part" ["part"] ["nest"] [] := cs_of (by decide +kernel)
theorem ok_countW {f : Addr} {fd : FuncData} (F : Fun K "count_words" "count_words" sCountW f fd) (T : Txt mg) (kS' : PySem.W.keepIn K (.ref f) = true) (mS : mg "count_words" = some (.ref f)) (bS : Binds K fd ["nest"] []) : ∀ d, FnOk P w K mg base CX0 d f fd ["nest"] (spCount K words d)
  | 0 => ⟨fun vs H Q E ⟨_, _, _, _, _, _, h, _⟩ => absurd h (Nat.not_lt_zero _), fun A outer s H args us vs Q E _ _ _ _ ⟨_, _, _, _, _, _, h, _⟩ => absurd h (Nat.not_lt_zero _)⟩
  | d + 1 => by
    have G := ok_countW F T kS' mS bS d
    refine F.ok scCountW (fun vs H Q E h => ?_) (fun cdv A outer s H vs Q E hr h => ?_)
    · obtain ⟨v, n, o, rfl, _⟩ := h; rfl
    · obtain ⟨v, n, o, rfl, hN, hv, hd, q⟩ := h
      refine ⟨_, (pss_cons (ps_if (pt_cmpR op_isN (pv 0) pe_non (nomark _)) (pss_one (ps_ret pe_int)) pss_nil)
      (pss_one (ps_ret (pe_callB (call_sumL rfl) (by rfl) T.sum boot_sum (pa_cons (pe_comp rfl csCountW rfl (pi_tup (pe_ix ix_tup (pv 0) pe_int (fun _ _ => rfl))) (fun cl C fp s H => pg_name (i := 0) csCountW.nd rfl (Or.inl rfl)) (fun cl C fp s H => pts_nil) (fun cl C fp s H => pe_call G hr (by rfl) mS kS' bS .nil pass0 (pa_cons (pv 0) pa_nil))) pa_nil))))), ?_⟩
      cases n with
      | word =>
        have e : v = .non := hN
        subst e
        exact ⟨_, rfl, rfl, _, rfl, iteT (q _ (Same.refl _))⟩
      | bad => exact absurd hv (by simp [valid])
      | knot k ps =>
        obtain ⟨a, b, us, rfl, ea, eb, hu2, hu3, hps⟩ := hN
        have hpl := hps.len
        have hvp : validL k ps = true := by simp only [valid, Bool.and_eq_true] at hv; exact hv.2
        refine ⟨_, rfl, rfl, _, rfl, iteF ?_⟩
        refine ⟨_, rfl, a, _, 1, _, rfl, rfl, SqT.of ea, rfl, b, rfl, ⟨_, SqT.of eb⟩, fun D hD => ?_⟩
        refine comp_inv (n := us.length) (fun i acc Hc => acc = ((ps.take i).map fun n => ((words n : Nat) : Int)).map V.int ∧ Hc D = some (.lst acc) ∧ Same H Hc ∧ i ≤ us.length) ⟨rfl, upd_same, same_upd hD, Nat.zero_le _⟩ ?_ (line1000 hu3) ?_ ?_ ?_
        · rintro i acc Hc ⟨rfl, e, _, hi⟩
          exact ⟨e, by simp; omega⟩
        · rintro i acc Hc hi ⟨rfl, e, sc, _⟩
          exact ⟨us, us[i], SqT.of (sc _ _ eb), List.getElem?_eq_getElem hi⟩
        · rintro acc Hc ⟨rfl, e, sc, _⟩
          refine ⟨⟨us, SqT.of (sc _ _ eb), Nat.le_refl _⟩, ?_⟩
          rw [← hpl, List.take_length] at e
          refine ⟨D, _, rfl, SqL.of e, ?_⟩
          rw [wordsL_sum]
          exact q _ sc
        · rintro i acc Hc y H5 R hi ⟨rfl, e, sc, _⟩ ⟨rfl, hy⟩ hR
          obtain ⟨nn, hnn, hnv⟩ := hps.get (hy _ (SqT.of (sc _ _ eb)))
          have hdn := depthL_get hnn
          simp only [depthN] at hd
          refine ⟨_, rfl, y, nn, some k, rfl, hnv.mono sc, validL_get hvp hnn, by omega, fun H6 s6 => hR _ _ (s6 _ _ e) ⟨?_, upd_same, fun b' o' e' => ?_, hi⟩⟩
          · rw [List.take_succ, hnn, List.map_append, List.map_append]
            rfl
          · rw [upd_ne (ne_of_none e' hD)]
            exact s6 _ _ (sc _ _ e')
theorem has_countw (D : Def K mg "count_words" s_count_words ["nest"]) (T : Txt mg) (d : Nat) : Has P w K mg base CX0 d "count_words" ["nest"] (spCount K words d) := by
  obtain ⟨f, fd, F, k, m, b⟩ := D.ex
  exact ⟨f, fd, ok_countW F T k m b d, k, m, b⟩
abbrev ns_is_of_kind : List Str := ["nest", "kind"]
theorem sc_is_of_kind : FnScope ns_is_of_kind ["nest", "kind"] (defScope s_is_of_kind) := ⟨rfl, rfl, rfl, by decide +kernel, rfl, by decide +kernel, by decide +kernel⟩
theorem ok_ofkind (D : Def K mg "is_of_kind" s_is_of_kind ["nest", "kind"]) : Has P w K mg base CX0 1 "is_of_kind" ["nest", "kind"] (spOfKind K) := by
  refine D.ok sc_is_of_kind (fun vs H Q E h => ?_) (fun f cdv A outer s H vs Q E hr h => ?_)
  · obtain ⟨v, n, o, k, rfl, _⟩ := h; rfl
  · obtain ⟨v, n, o, k, rfl, hN, hv, q⟩ := h
    refine ⟨_, (pss_one (ps_ret (pe_and (pe_cmpR op_notN (pv 0) pe_non (nomark _)) (pe_one (pe_cmpR op_eq (pe_ix ix_tup (pv 0) pe_int (fun _ _ => rfl)) (pv 1) (nomark _)))))), ?_⟩
    cases n with
    | word =>
      have e : v = .non := hN
      subst e
      exact ⟨_, rfl, rfl, _, rfl, iteF q⟩
    | bad => simp [valid] at hv
    | knot k2 ps =>
      obtain ⟨a, b, us, rfl, ea, _⟩ := hN
      refine ⟨_, rfl, rfl, _, rfl, iteT ⟨_, rfl, a, _, 0, _, rfl, rfl, SqT.of ea, rfl, _, rfl, rfl, ?_⟩⟩
      have e : decide (V.str (kS k2) = V.str (kS k)) = ofK k (.knot k2 ps) := by
        show _ = decide (k2 = k)
        cases k <;> cases k2 <;> decide +kernel
      rw [e]
      exact q
abbrev ns_number_in_kind : List Str := ["counts", "nest", "number", "words", "place", "part", "first"]
theorem sc_number_in_kind : FnScope ns_number_in_kind ["counts", "nest"] (defScope s_number_in_kind) := ⟨rfl, rfl, rfl, by decide +kernel, rfl, by decide +kernel, by decide +kernel⟩
def cp_number_in_kind_0 (s : Stmt) : Scope := match (defBody s).getD 3 (.Pass ⟨0, 0, 0, 0⟩) with
  | .For _ _ [_, _, (.AugAssign _ _ (.Call _ [(.ListComp _ _ sc _)] _ _) _), _, _] _ _ => sc
  | _ => defScope s
theorem cs_number_in_kind_0 : CScope (defScope s_number_in_kind) (cp_number_in_kind_0 s_number_in_kind) "fewer" ["fewer", "counts", "words"] ns_number_in_kind [0, 3] := cs_of (by decide +kernel)
theorem ok_numkind (D : Def K mg "number_in_kind" s_number_in_kind ["counts", "nest"]) (T : Txt mg) (h_count : ∀ d, Has P w K mg base CX0 d "count_words" ["nest"] (spCount K words d)) (h_cp : Has P w K mg base CX0 1 "count_parts" ["counts", "words"] (spParts K)) (h_cr : Has P w K mg base CX0 2 "count_rows" ["counts", "words"] (spRows K)) (h_cf : Has P w K mg base CX0 3 "count_with_first" ["counts", "words", "first"] (spWithFirst K)) : ∀ d, Has P w K mg base CX0 (d + 3) "number_in_kind" ["counts", "nest"] (spRankN K d)
  | 0 => D.rec0 fun vs H Q E ⟨_, _, _, _, _, _, _, _, _, h, _⟩ => absurd h (Nat.not_lt_zero _)
  | d + 1 => by
    have h_number_in_kind := ok_numkind D T h_count h_cp h_cr h_cf d
    have h_count_words := h_count (d + 2)
    have h_count_parts := h_cp
    have h_count_rows := h_cr
    have h_count_with_first := h_cf
    refine D.ok sc_number_in_kind (fun vs H Q E h => ?_) (fun f cdv A outer s H vs Q E hr h => ?_)
    · obtain ⟨l, m, v, n, o, rfl, _⟩ := h; rfl
    · obtain ⟨l, m, v, n, o, rfl, hC, hN, hv, hd, hw, q⟩ := h
      refine ⟨_, (pss_cons (ps_if (pt_cmpR op_isN (pv 1) pe_non (nomark _)) (pss_one (ps_ret pe_int)) pss_nil)
      (pss_cons (ps_set (i := 2) sc_number_in_kind.nd rfl (Or.inl rfl) pe_int)
      (pss_cons (ps_set (i := 3) sc_number_in_kind.nd rfl (Or.inr rfl) (pe_has h_count_words (hr.mono (by first | decide | omega)) (by rfl) pass0 (pa_cons (pv 1) pa_nil)))
      (pss_cons (ps_for PassesOwn.never rfl (pi_enumT rfl T.enm (pa_cons (pe_slice sl_tup (pe_ix ix_tup (pv 1) pe_int (fun _ _ => rfl)) po_none (po_some (pe_un un_neg pe_int))) pa_nil)) (pg_tup rfl (pgs_cons (pg_name (i := 4) sc_number_in_kind.nd rfl (Or.inl rfl)) (pgs_cons (pg_name (i := 5) sc_number_in_kind.nd rfl (Or.inl rfl)) pgs_nil))) (pss_cons (ps_if (pt_cmpR op_gt (pv 4) pe_int (nomark _)) (pss_one (ps_aug (i := 2) sc_number_in_kind.nd rfl (Or.inl rfl) (pe_has h_count_parts (hr.mono (by first | decide | omega)) (by rfl) pass0 (pa_cons (pv 0) (pa_cons (pv 3) pa_nil))) ip_add)) pss_nil)
      (pss_cons (ps_set (i := 6) sc_number_in_kind.nd rfl (Or.inl rfl) (pe_has h_count_words (hr.mono (by first | decide | omega)) (by rfl) pass0 (pa_cons (pv 5) pa_nil)))
      (pss_cons (ps_aug (i := 2) sc_number_in_kind.nd rfl (Or.inl rfl) (pe_callB (call_sumL rfl) (by rfl) T.sum boot_sum (pa_cons (pe_comp rfl cs_number_in_kind_0 rfl (pi_range2 rfl T.b.rng (pa_cons pe_int (pa_cons (pv 6) pa_nil))) (fun cl C fp s H => pg_name (i := 0) cs_number_in_kind_0.nd rfl (Or.inl rfl)) (fun cl C fp s H => pts_nil) (fun cl C fp s H => (pe_has h_count_with_first (hr.mono (by first | decide | omega)) (by rfl) pass0 (pa_cons (pv 1) (pa_cons (pv 2) (pa_cons (pv 0) pa_nil)))))) pa_nil)) ip_add)
      (pss_cons (ps_aug (i := 3) sc_number_in_kind.nd rfl (Or.inr rfl) (pv 6) ip_sub)
      (pss_one (ps_aug (i := 2) sc_number_in_kind.nd rfl (Or.inl rfl) (pe_op op_mulW (pe_has h_number_in_kind hr (by rfl) pass0 (pa_cons (pv 0) (pa_cons (pv 5) pa_nil))) (pe_has h_count_rows (hr.mono (by first | decide | omega)) (by rfl) pass0 (pa_cons (pv 0) (pa_cons (pv 3) pa_nil)))) ip_add)))))))
      (pss_one (ps_ret (pe_op op_add (pv 2) (pe_has h_number_in_kind hr (by rfl) pass0 (pa_cons (pv 0) (pa_cons (pe_ix ix_tup (pe_ix ix_tup (pv 1) pe_int (fun _ _ => rfl)) (pe_un un_neg pe_int) (fun _ _ => rfl)) pa_nil)))))))))), ?_⟩
      cases n with
      | bad => simp [valid] at hv
      | word =>
        have e : v = .non := hN
        subst e
        refine ⟨_, rfl, rfl, _, rfl, iteT ?_⟩
        have := q H (Same.refl _)
        rw [rkN] at this
        exact this
      | knot k ps =>
        have hN' := hN
        have hfit := hN.fit hv
        obtain ⟨a, b, us, rfl, ea, eb, hu2, hu3, hps⟩ := hN
        have hpl := hps.len
        have hvp : validL k ps = true := by simp only [valid, Bool.and_eq_true] at hv; exact hv.2
        have hfl : fitL ps = true := by rw [Tn.fit, Bool.and_eq_true] at hfit; exact hfit.2
        simp only [depthN] at hd
        have hwk : words (.knot k ps) = wordsL ps := by rw [words]
        rw [hwk] at hw
        have h60 := hC.1
        rw [rkN] at q
        refine ⟨_, rfl, rfl, _, rfl, iteF ?_⟩
        refine ⟨_, rfl, _, _, _, rfl, hN', hv, by simp only [depthN]; omega, fun H1 s1 => ?_⟩
        rw [hwk]
        have hnot : ¬ (HT.sIx us.length 0 none = 0 ∧ HT.sIx us.length us.length (some (-1)) = us.length) := fun z => by
          have e2 : HT.sIx us.length us.length (some (-1)) = us.length - 1 := by
            show (if (-1 : Int) < 0 then ((-1 : Int) + (us.length : Int)).toNat else min (-1 : Int).toNat us.length) = us.length - 1
            rw [if_pos (by decide)]
            omega
          rw [e2] at z
          omega
        refine ⟨_, rfl, a, _, 1, _, rfl, rfl, SqT.of (s1 _ _ ea), rfl, 1, rfl, -1, rfl, b, us, rfl, SqT.of (s1 _ _ eb), hnot, fun sp hsp => ?_⟩
        rw [cut_last us (by omega)]
        have s2 := s1.trans (same_upd (o := .tup (us.take (us.length - 1))) hsp)
        have e2 : (upd H1 sp (.tup (us.take (us.length - 1)))) sp = some (.tup (us.take (us.length - 1))) := upd_same
        generalize upd H1 sp (.tup (us.take (us.length - 1))) = H2 at s2 e2 ⊢
        have htk : (us.take (us.length - 1)).length = us.length - 1 := by rw [List.length_take]; omega
        refine ⟨sp, rfl, ⟨_, SqT.of e2⟩, for_enum (K := K) (a := sp) (xs := us.take (us.length - 1)) (fun i σ Hx => ∃ (num : Int) (v4 v5 v6 : Option V), σ = [some (.ref l), some (.ref a), some (.int num), some (.int (wordsL (ps.drop i) : Nat)), v4, v5, v6] ∧ Same H2 Hx ∧ num + rkL (decide (i = 0)) (ps.drop i) = rkL true ps ∧ i ≤ us.length - 1)
          ⟨0, none, none, none, ?_, Same.refl _, ?_, Nat.zero_le _⟩ (fun i σ Hx _ ⟨_, _, _, _, _, sx, _⟩ => SqT.of (sx _ _ e2)) ?_ ?_⟩
        · rw [List.drop_zero]; rfl
        · rw [List.drop_zero, Int.zero_add]; rfl
        · rintro i y σ Hx tp hi ⟨num, v4, v5, v6, rfl, sx, hnum, hiu⟩ htp
          have hil : i < us.length - 1 := by
            have := (List.getElem?_eq_some_iff.mp hi).1
            omega
          rw [List.getElem?_take_of_lt hil] at hi
          obtain ⟨nn, hnn, hnv⟩ := hps.get hi
          have hip : i < ps.length := (List.getElem?_eq_some_iff.mp hnn).1
          have hdn := depthL_get hnn
          have hwn := wordsL_at hnn
          have hvn := validL_get hvp hnn
          have hfn := fitL_mem hfl (List.mem_of_getElem? hnn)
          have hdr : ps.drop i = nn :: ps.drop (i + 1) := by
            rw [List.drop_eq_getElem_cons hip]
            congr 1
            exact (List.getElem?_eq_some_iff.mp hnn).2
          have hrne : ps.drop (i + 1) ≠ [] := by
            intro z
            have := congrArg List.length z
            rw [List.length_drop, List.length_nil] at this
            omega
          have hwd : wordsL (ps.drop i) = words nn + wordsL (ps.drop (i + 1)) := by rw [hdr, wl_cons]
          have hwl : wordsL (ps.drop i) ≤ wordsL ps := by
            have := congrArg wordsL (List.take_append_drop i ps)
            rw [wordsL_app] at this
            omega
          have hw1 := words_fit hfn
          have st := sx.trans (same_upd (o := .tup [.int (i : Int), y]) htp)
          refine ⟨tp, _, rfl, SqT.of upd_same, rfl, _, _, rfl, _, _, rfl, rfl, ?_⟩
          generalize upd Hx tp (.tup [.int (i : Int), y]) = H3 at st ⊢
          have S3 := s2.trans st
          have hC3 := hC.mono S3
          dsimp only [List.set]
          refine seq_if (fun σ' Hy => ∃ num' : Int, σ' = [some (.ref l), some (.ref a), some (.int num'), some (.int (wordsL (ps.drop i) : Nat)), some (.int (i : Int)), some y, v6] ∧ Hy = H3 ∧ num' + sumF (wordsL (ps.drop i)) (words nn) + rkN nn * Rw (wordsL (ps.drop (i + 1))) + rkL false (ps.drop (i + 1)) = rkL true ps) ?_ fun hrest => ?_
          · rintro σ' Hy ⟨num', rfl, rfl, hnum'⟩
            refine ⟨_, rfl, y, nn, some k, rfl, hnv.mono S3, hvn, by omega, fun H4 s4 => ?_⟩
            have S4 := S3.trans s4
            have hC4 := hC3.mono s4
            refine ⟨_, rfl, _, rfl, 1, (words nn : Int), rfl, ⟨by decide, by decide, by omega, by omega⟩, fun D hD => ?_⟩
            rw [show ((words nn : Int) - 1).toNat = words nn - 1 by omega]
            refine comp_range (fun j => V.int (cwfF tab (wordsL (ps.drop i)) (1 + j))) (line1000 (by omega)) (fun j acc R hj hR => ?_) ?_
            · refine ⟨_, rfl, _, rfl, _, rfl, l, tab.take (m + 1), wordsL (ps.drop i), 1 + j, ?_, SqL.of (same_upd hD _ _ hC4.2), by omega, hC.len (by omega), hC.len (by omega), ctake_small, ?_⟩
              · rw [show ((1 + j : Nat) : Int) = 1 + (j : Int) by omega]
              · rw [cwf_at (by omega) (by omega)]
                exact hR
            · have em : ((List.range (words nn - 1)).map fun j => V.int (cwfF tab (wordsL (ps.drop i)) (1 + j))) = (((List.range (words nn - 1)).map fun j => cwfF tab (wordsL (ps.drop i)) (1 + j))).map V.int := by rw [List.map_map]; rfl
              rw [em]
              have s5 := same_upd (o := .lst ((((List.range (words nn - 1)).map fun j => cwfF tab (wordsL (ps.drop i)) (1 + j))).map V.int)) hD
              have e5 : (upd H4 D (.lst ((((List.range (words nn - 1)).map fun j => cwfF tab (wordsL (ps.drop i)) (1 + j))).map V.int))) D = some (.lst ((((List.range (words nn - 1)).map fun j => cwfF tab (wordsL (ps.drop i)) (1 + j))).map V.int)) := upd_same
              generalize upd H4 D (.lst ((((List.range (words nn - 1)).map fun j => cwfF tab (wordsL (ps.drop i)) (1 + j))).map V.int)) = H5 at s5 e5 ⊢
              have S5 := S4.trans s5
              refine ⟨D, _, rfl, SqL.of e5, _, _, rfl, rfl, ?_⟩
              refine ⟨_, rfl, _, rfl, _, _, rfl, rfl, ?_⟩
              refine ⟨_, rfl, _, rfl, _, rfl, l, m, y, nn, some k, rfl, hC.mono S5, hnv.mono S5, hvn, by omega, by omega, fun H6 s6 => ?_⟩
              have S6 := S5.trans s6
              refine ⟨_, rfl, _, rfl, l, tab.take (m + 1), wordsL (ps.drop (i + 1)), ?_, SqL.of (hC.mono S6).2, hC.len (by omega), _, _, rfl, rfl, ?_, _, _, rfl, rfl, ?_⟩
              · dsimp only [List.set]
                rw [show ((wordsL (ps.drop (i + 1)) : Nat) : Int) = ((wordsL (ps.drop i) : Nat) : Int) - ((words nn : Nat) : Int) by omega]
              · rw [crow_at (by omega)]
                exact rk_mul hfn (by omega) (by omega)
              · refine ⟨num' + sumF (wordsL (ps.drop i)) (words nn) + rkN nn * Rw (wordsL (ps.drop (i + 1))), some (.int (i : Int)), some y, some (.int (words nn : Nat)), ?_, ?_, ?_, by omega⟩
                · dsimp only [List.set]
                  rw [crow_at (by omega), show ((wordsL (ps.drop (i + 1)) : Nat) : Int) = ((wordsL (ps.drop i) : Nat) : Int) - ((words nn : Nat) : Int) by omega]
                  rfl
                · exact st.trans (s4.trans (s5.trans s6))
                · rw [decide_eq_false (by omega)]
                  exact hnum'
          · refine ⟨_, rfl, _, _, rfl, rfl, _, rfl, ?_⟩
            by_cases h0 : i = 0
            · rw [decide_eq_false (p := (i : Int) > 0) (by omega)]
              refine iteF (hrest _ _ ⟨num, rfl, rfl, ?_⟩)
              rw [decide_eq_true h0, hdr, rank_step true hrne, if_pos rfl, ← hdr] at hnum
              omega
            · rw [decide_eq_true (p := (i : Int) > 0) (by omega)]
              refine iteT ⟨_, rfl, _, rfl, _, rfl, l, tab.take (m + 1), wordsL (ps.drop i), rfl, SqL.of hC3.2, hC.len (by omega), _, _, rfl, rfl, hrest _ _ ⟨num + Pw (wordsL (ps.drop i)), ?_, rfl, ?_⟩⟩
              · dsimp only [List.set]
                rw [cpt_at (by omega)]
              · rw [decide_eq_false h0, hdr, rank_step false hrne, if_neg (by simp), ← hdr] at hnum
                omega
        · rintro σ Hx ⟨num, v4, v5, v6, rfl, sx, hnum, hiu⟩
          rw [htk] at hnum ⊢
          have hlu : us.length - 1 < us.length := by omega
          obtain ⟨nn, hnn, hnv⟩ := hps.get (List.getElem?_eq_getElem hlu)
          have hdn := depthL_get hnn
          have hwn := wordsL_at hnn
          have hvn := validL_get hvp hnn
          have hdr : ps.drop (us.length - 1) = [nn] := by
            rw [List.drop_eq_getElem_cons (by omega), (List.getElem?_eq_some_iff.mp hnn).2, show us.length - 1 + 1 = ps.length by omega, List.drop_length]
          rw [hdr, rkL_one] at hnum
          have hat : atI us (-1) = some us[us.length - 1] := by
            have := atI_last (us.take (us.length - 1)) us[us.length - 1]
            rw [show us.take (us.length - 1) ++ [us[us.length - 1]] = us by
              have := List.take_append_drop (us.length - 1) us
              rw [List.drop_eq_getElem_cons hlu, show us.length - 1 + 1 = us.length by omega, List.drop_length] at this
              exact this] at this
            exact this
          have SX := s2.trans sx
          refine ⟨_, rfl, _, rfl, _, rfl, a, _, 1, _, rfl, rfl, SqT.of (SX _ _ ea), rfl, 1, rfl, b, _, -1, _, rfl, rfl, SqT.of (SX _ _ eb), hat, l, m, _, nn, some k, rfl, hC.mono SX, hnv.mono SX, hvn, by omega, by omega, fun H6 s6 => ?_⟩
          refine ⟨_, _, rfl, rfl, ?_⟩
          have := q H6 (SX.trans s6)
          rw [← hnum] at this
          exact this
abbrev ns_number_of : List Str := ["nest", "many", "counts", "number"]
theorem sc_number_of : FnScope ns_number_of ["nest"] (defScope s_number_of) := ⟨rfl, rfl, rfl, by decide +kernel, rfl, by decide +kernel, by decide +kernel⟩
theorem ok_numberof {C : Addr} (D : Def K mg "number_of" s_number_of ["nest"]) (T : Txt mg) (h_must_be_nest : Has P w K mg base (CXV P w) 3 "must_be_nest" ["thing"] (spMust K C)) (h_count_words : Has P w K mg base CX0 60 "count_words" ["nest"] (spCount K words 60)) (h_kind_counts : Has P w K mg base CX0 4 "kind_counts" ["many"] spKinds) (h_number_in_kind : Has P w K mg base CX0 64 "number_in_kind" ["counts", "nest"] (spRankN K 61)) (h_is_of_kind : Has P w K mg base CX0 1 "is_of_kind" ["nest", "kind"] (spOfKind K)) :
    Has P w K mg base (CXV P w) 65 "number_of" ["nest"] (spNumberOf K C) := by
  refine D.okV sc_number_of (fun vs H Q E h => ?_) (fun f cdv A outer s H vs Q E hr h => ?_)
  · obtain ⟨v, n, rfl, _⟩ := h; rfl
  · obtain ⟨v, n, rfl, hN, q, qE⟩ := h
    refine ⟨_, (pss_cons (ps_expr (pe_has h_must_be_nest (hr.mono (by first | decide | omega)) (by rfl) passV (pa_cons (pv 0) pa_nil)))
      (pss_cons (ps_set (i := 1) sc_number_of.nd rfl (Or.inl rfl) (pe_has h_count_words (hr.mono (by first | decide | omega)) (by rfl) pass0 (pa_cons (pv 0) pa_nil)))
      (pss_cons (ps_set (i := 2) sc_number_of.nd rfl (Or.inl rfl) (pe_has h_kind_counts (hr.mono (by first | decide | omega)) (by rfl) pass0 (pa_cons (pv 1) pa_nil)))
      (pss_cons (ps_set (i := 3) sc_number_of.nd rfl (Or.inl rfl) (pe_has h_number_in_kind hr (by rfl) pass0 (pa_cons (pv 2) (pa_cons (pv 0) pa_nil))))
      (pss_cons (ps_if (pt_val (pe_has h_is_of_kind (hr.mono (by first | decide | omega)) (by rfl) pass0 (pa_cons (pv 0) (pa_cons pe_str pa_nil)))) (pss_one (ps_ret (pe_op op_add (pe_ix ix_list (pv 2) (pv 1) (fun _ _ => rfl)) (pv 3)))) pss_nil)
      (pss_one (ps_ret (pv 3)))))))), ?_⟩
    refine ⟨_, rfl, v, n, rfl, hN, fun ho H1 s1 => ?_, qE⟩
    obtain ⟨h1, h2⟩ := okN_valid ho
    have h3 := depth_words hN
    have hf := words_fit (hN.fit h1)
    refine ⟨_, rfl, v, n, none, rfl, hN.mono s1, h1, by omega, fun H2 s2 => ?_⟩
    refine ⟨_, rfl, words n, rfl, hf, h2, fun l H3 nl el s3 => ?_⟩
    have S3 := s1.trans (s2.trans s3)
    have hC : CtsAt K H3 l (words n) := ⟨h2, el⟩
    refine ⟨_, rfl, _, rfl, l, words n, v, n, none, rfl, hC, hN.mono S3, h1, by omega, Nat.le_refl _, fun H4 s4 => ?_⟩
    have S4 := S3.trans s4
    refine ⟨_, rfl, v, n, none, false, rfl, hN.mono S4, h1, _, rfl, ?_⟩
    have qn := q ho H4 S4
    unfold numN at qn
    by_cases e : ofK false n = true
    · rw [e]
      rw [if_pos e] at qn
      refine iteT ⟨_, rfl, _, rfl, l, _, _, _, rfl, rfl, SqL.of (s4 _ _ el), getD_at (hC.len (Nat.le_refl _)), _, rfl, _, _, rfl, rfl, ?_⟩
      rw [getD_take (by omega)]
      rw [Int.add_comm] at qn
      exact qn
    · rw [Bool.not_eq_true] at e
      rw [e]
      rw [e, if_neg (by simp), Int.add_zero] at qn
      exact iteF ⟨_, rfl, qn⟩
abbrev ns_part_at : List Str := ["counts", "kind", "words", "number", "parts", "other", "first", "rows"]
theorem sc_part_at : FnScope ns_part_at ["counts", "kind", "words", "number"] (defScope s_part_at) := ⟨rfl, rfl, rfl, by decide +kernel, rfl, by decide +kernel, by decide +kernel⟩
theorem ok_partat (D : Def K mg "part_at" s_part_at ["counts", "kind", "words", "number"]) (T : Txt mg) (h_cp : Has P w K mg base CX0 1 "count_parts" ["counts", "words"] (spParts K)) (h_cr : Has P w K mg base CX0 2 "count_rows" ["counts", "words"] (spRows K)) (h_cf : Has P w K mg base CX0 3 "count_with_first" ["counts", "words", "first"] (spWithFirst K)) : ∀ d, Has P w K mg base CX0 (d + 4) "part_at" ["counts", "kind", "words", "number"] (spPartAt K d)
  | 0 => D.rec0 fun vs H Q E ⟨_, _, _, _, _, _, _, h1, _, h, _⟩ => by omega
  | d + 1 => by
    have h_part_at := ok_partat D T h_cp h_cr h_cf d
    have h_count_parts := h_cp
    have h_count_rows := h_cr
    have h_count_with_first := h_cf
    refine D.ok sc_part_at (fun vs H Q E h => ?_) (fun f cdv A outer s H vs Q E hr h => ?_)
    · obtain ⟨l, m, w, k, z, rfl, _⟩ := h; rfl
    · obtain ⟨l, m, w0, k, z, rfl, hC, hw1, hwm, hwd, hz0, hz1, q⟩ := h
      refine ⟨_, (pss_cons (ps_if (pt_cmpR op_eq (pv 2) pe_int (nomark _)) (pss_one (ps_ret pe_non)) pss_nil)
      (pss_cons (ps_set (i := 4) sc_part_at.nd rfl (Or.inl rfl) (pe_lst pa_nil))
      (pss_cons (ps_set (i := 5) sc_part_at.nd rfl (Or.inl rfl) (pe_ifExp (pt_cmpR op_eq (pv 1) pe_str (nomark _)) pe_str pe_str))
      (pss_one (ps_while PassesOwn.never (pt_val pe_bl) (pss_cons (ps_set (i := 6) sc_part_at.nd rfl (Or.inl rfl) pe_int)
      (pss_cons (ps_while PassesOwn.never (pt_cmpR op_ge (pv 3) (pe_has h_count_with_first (hr.mono (by first | decide | omega)) (by rfl) pass0 (pa_cons (pv 0) (pa_cons (pv 2) (pa_cons (pv 6) pa_nil)))) (nomark _)) (pss_cons (ps_aug (i := 3) sc_part_at.nd rfl (Or.inl rfl) (pe_has h_count_with_first (hr.mono (by first | decide | omega)) (by rfl) pass0 (pa_cons (pv 0) (pa_cons (pv 2) (pa_cons (pv 6) pa_nil)))) ip_sub)
      (pss_one (ps_aug (i := 6) sc_part_at.nd rfl (Or.inl rfl) pe_int ip_add))))
      (pss_cons (ps_aug (i := 2) sc_part_at.nd rfl (Or.inl rfl) (pv 6) ip_sub)
      (pss_cons (ps_set (i := 7) sc_part_at.nd rfl (Or.inl rfl) (pe_has h_count_rows (hr.mono (by first | decide | omega)) (by rfl) pass0 (pa_cons (pv 0) (pa_cons (pv 2) pa_nil))))
      (pss_cons (ps_expr (pe_bm PySem.F.plainAttrs_list PySem.F.slot_list_append PySem.F.type_list_append mt_append (pv 4) (pa_cons (pe_has h_part_at hr (by rfl) pass0 (pa_cons (pv 0) (pa_cons (pv 5) (pa_cons (pv 6) (pa_cons (pe_op op_fdivB (pv 3) (pv 7)) pa_nil))))) pa_nil)))
      (pss_cons (ps_set (i := 3) sc_part_at.nd rfl (Or.inl rfl) (pe_op op_mod (pv 3) (pv 7)))
      (pss_cons (ps_if (pt_cmpR op_lt (pv 3) (pe_has h_count_parts (hr.mono (by first | decide | omega)) (by rfl) pass0 (pa_cons (pv 0) (pa_cons (pv 2) pa_nil))) (nomark _)) (pss_cons (ps_expr (pe_bm PySem.F.plainAttrs_list PySem.F.slot_list_append PySem.F.type_list_append mt_append (pv 4) (pa_cons (pe_has h_part_at hr (by rfl) pass0 (pa_cons (pv 0) (pa_cons (pv 5) (pa_cons (pv 2) (pa_cons (pv 3) pa_nil))))) pa_nil)))
      (pss_one (ps_ret (pe_tup (pa_cons (pv 1) (pa_cons (pe_callTy call_tuple_of (by rfl) T.b.tup boot_ty_tuple (pa_cons (pv 4) pa_nil)) pa_nil)))))) pss_nil)
      (pss_one (ps_aug (i := 3) sc_part_at.nd rfl (Or.inl rfl) (pe_has h_count_parts (hr.mono (by first | decide | omega)) (by rfl) pass0 (pa_cons (pv 0) (pa_cons (pv 2) pa_nil))) ip_sub)))))))))))))), ?_⟩
      have h60 := hC.1
      refine ⟨_, rfl, rfl, _, rfl, ?_⟩
      by_cases e1 : w0 = 1
      · subst e1
        have : z = 0 := by rw [pw_one] at hz1; omega
        subst this
        refine iteT (q .word .non H rfl rfl rfl (.inl rfl) (by rw [words]) (by rw [rkN]) (Same.refl _))
      · rw [decide_eq_false (by intro zz; have zz : ((w0 : Nat) : Int) = 1 := V.int.inj zz; omega)]
        refine iteF ⟨(by show 0 ≤ sizeLine; omega), fun pp hpp => ?_⟩
        have s1 := same_upd (o := .lst []) hpp
        have e2 : (upd H pp (.lst [])) pp = some (.lst []) := upd_same
        generalize upd H pp (.lst []) = H1 at s1 e2 ⊢
        have sU : ∀ (G : Hp) (o : HO), Same H G → Same H (upd G pp o) := fun G o h b ob e => by rw [upd_ne (ne_of_none e hpp)]; exact h b ob e
        refine ⟨_, rfl, rfl, _, rfl, ?_⟩
        refine kind_other k (fun x => gName 5 x (List.set (L2.start ns_part_at [V.ref l, V.str (kS k), V.int (w0 : Int), V.int z]) 4 (some (V.ref pp))) H1 _) ?_
        have hzC : z < Cw w0 := by rw [← pw_two e1]; exact hz1
        refine ⟨fun mm σ Hx => ∃ (w : Nat) (y : Int) (qs : List Nest) (acc : List V) (v6 v7 : Option V), mm = w ∧ σ = [some (.ref l), some (.str (kS k)), some (.int (w : Int)), some (.int y), some (.ref pp), some (.str (kS (!k))), v6, v7] ∧ Same H Hx ∧ Hx pp = some (.lst acc) ∧ NestsAt K Hx qs acc ∧ validL k qs = true ∧ fitL qs = true ∧ wordsL qs + w = w0 ∧ 2 ≤ w ∧ 0 ≤ y ∧ y < Cw w ∧ Rest qs w y z,
          ⟨w0, w0, z, [], [], none, none, rfl, rfl, s1, e2, rfl, rfl, rfl, by rw [wordsL, Nat.zero_add], by omega, hz0, hzC, fun r _ _ h => h⟩, ?_⟩
        rintro mm σ Hx ⟨w, y, qs, acc, v6, v7, rfl, rfl, sx, eP, hA, hvq, hfq, hww, hw2, hy0, hy1, hR⟩
        refine ⟨_, rfl, iteT ?_⟩
        have hal := hA.len
        have hql := wordsL_fit hfq
        have hCx := hC.mono sx
        refine ⟨fun σ' H' => ∃ (w' : Nat), w' < mm ∧ ∃ (y : Int) (qs : List Nest) (acc : List V) (v6 v7 : Option V), σ' = [some (.ref l), some (.str (kS k)), some (.int (w' : Int)), some (.int y), some (.ref pp), some (.str (kS (!k))), v6, v7] ∧ Same H H' ∧ H' pp = some (.lst acc) ∧ NestsAt K H' qs acc ∧ validL k qs = true ∧ fitL qs = true ∧ wordsL qs + w' = w0 ∧ 2 ≤ w' ∧ 0 ≤ y ∧ y < Cw w' ∧ Rest qs w' y z,
          fun σ' H' ⟨w', h1, y', qs', acc', v6', v7', h2⟩ => ⟨w', h1, w', y', qs', acc', v6', v7', rfl, h2⟩, ?_⟩
        -- how many words the next part has
        refine ⟨fun m2 σ Hy => ∃ f : Nat, m2 = mm - f ∧ 1 ≤ f ∧ f ≤ mm ∧ 0 ≤ y - sumF mm f ∧ σ = [some (.ref l), some (.str (kS k)), some (.int (mm : Int)), some (.int (y - sumF mm f)), some (.ref pp), some (.str (kS (!k))), some (.int (f : Int)), v7] ∧ Hy = Hx,
          ⟨mm - 1, 1, rfl, Nat.le_refl _, by omega, by rw [sumF_one]; omega, ?_, rfl⟩, ?_⟩
        · dsimp only [List.set]
          rw [sumF_one, Int.sub_zero]
          rfl
        rintro m2 σ Hy ⟨f1, rfl, hf1, hf2, hf3, rfl, rfl⟩
        have hsf := sumF_full hw2 (by omega)
        have hfm : f1 < mm := by
          rcases Nat.lt_or_ge f1 mm with zz | zz
          · exact zz
          · have : f1 = mm := by omega
            subst this
            omega
        refine ⟨_, rfl, _, rfl, _, rfl, _, rfl, l, tab.take (m + 1), mm, f1, rfl, SqL.of hCx.2, by omega, hC.len (by omega), hC.len (by omega), ctake_small, ?_⟩
        rw [cwf_at (by omega) (by omega)]
        refine ⟨_, _, rfl, rfl, _, rfl, ?_⟩
        by_cases hge : Fw mm f1 ≤ y - sumF mm f1
        · rw [decide_eq_true hge]
          refine iteT ⟨fun σ' H' => ∃ f' : Nat, mm - f' < mm - f1 ∧ 1 ≤ f' ∧ f' ≤ mm ∧ 0 ≤ y - sumF mm f' ∧ σ' = [some (.ref l), some (.str (kS k)), some (.int (mm : Int)), some (.int (y - sumF mm f')), some (.ref pp), some (.str (kS (!k))), some (.int (f' : Int)), v7] ∧ H' = Hy, fun σ' H' ⟨f', h1, h2, h3, h4, h5, h6⟩ => ⟨_, h1, f', rfl, h2, h3, h4, h5, h6⟩, ?_⟩
          refine ⟨_, rfl, _, rfl, _, rfl, _, rfl, l, tab.take (m + 1), mm, f1, rfl, SqL.of hCx.2, by omega, hC.len (by omega), hC.len (by omega), ctake_small, ?_⟩
          rw [cwf_at (by omega) (by omega)]
          refine ⟨_, _, rfl, rfl, _, rfl, _, _, rfl, rfl, f1 + 1, by omega, by omega, by omega, ?_, ?_, rfl⟩
          · rw [sumF_succ hf1]; omega
          · dsimp only [List.set]
            rw [sumF_succ hf1, show y - sumF mm f1 - Fw mm f1 = y - (sumF mm f1 + Fw mm f1) by omega, show ((f1 : Nat) : Int) + 1 = ((f1 + 1 : Nat) : Int) by omega]
        · rw [decide_eq_false hge]
          refine iteF ?_
          -- the part
          have hy2 : y - sumF mm f1 < Fw mm f1 := by omega
          generalize hyy : y - sumF mm f1 = x at hf3 hy2 ⊢
          have hr1 := rw_pos (w := mm - f1) (by omega) (by omega)
          refine ⟨_, rfl, _, rfl, _, _, rfl, rfl, ?_⟩
          dsimp only [List.set]
          rw [show ((mm : Nat) : Int) - ((f1 : Nat) : Int) = ((mm - f1 : Nat) : Int) by omega]
          refine ⟨_, rfl, _, rfl, l, tab.take (m + 1), mm - f1, rfl, SqL.of hCx.2, hC.len (by omega), ?_⟩
          rw [crow_at (by omega)]
          have hq0 : 0 ≤ x / Rw (mm - f1) := Int.ediv_nonneg hf3 (by omega)
          have hq1 : x / Rw (mm - f1) < Pw f1 := Int.ediv_lt_of_lt_mul (by omega) (by rw [← fw_eq]; exact hy2)
          have hm0 := Int.emod_nonneg x (show Rw (mm - f1) ≠ 0 by omega)
          have hm1 := Int.emod_lt_of_pos x (show 0 < Rw (mm - f1) by omega)
          have hdm := Int.mul_ediv_add_emod x (Rw (mm - f1))
          refine ⟨_, rfl, .inl ⟨rfl, _, SqL.of eP⟩, _, rfl, _, rfl, _, rfl, _, rfl, _, rfl, _, _, rfl, rfl, rw_div (by omega) (by omega), l, m, f1, !k, _, rfl, hCx, hf1, by omega, by omega, hq0, hq1, fun n1 u1 H3 hN1 hv1 hfi1 hK1 hw1' hr1' s3 => ?_⟩
          have eP3 := s3 _ _ eP
          have S3 := sx.trans s3
          have hv1' : valid (some k) n1 = true := by rw [Bool.not_not] at hv1; exact hv1
          refine ⟨pp, _, _, rfl, rfl, eP3, small1000 (by omega), ?_⟩
          have e4 : (upd H3 pp (.lst (acc ++ [u1]))) pp = some (.lst (acc ++ [u1])) := upd_same
          have S4 := sU H3 (.lst (acc ++ [u1])) S3
          have hA4 : NestsAt K (upd H3 pp (.lst (acc ++ [u1]))) (qs ++ [n1]) (acc ++ [u1]) := NestsAt.app (NestsAt.updL eP3 (hA.mono s3)) (NestsAt.one (NestAt.updL eP3 hN1))
          generalize upd H3 pp (.lst (acc ++ [u1])) = H4 at e4 S4 hA4 ⊢
          have hvq1 : validL k (qs ++ [n1]) = true := by rw [validL_app, hvq]; simp [validL, hv1']
          have hfq1 : fitL (qs ++ [n1]) = true := by rw [fitL_app, hfq]; simp [fitL, hfi1]
          have hwq1 : wordsL (qs ++ [n1]) = wordsL qs + f1 := by rw [wordsL_app, wl_cons, wordsL, hw1']; rfl
          refine ⟨_, rfl, _, rfl, _, _, rfl, rfl, by omega, ?_⟩
          have hC4 := hC.mono S4
          refine ⟨_, rfl, _, rfl, _, rfl, l, tab.take (m + 1), mm - f1, rfl, SqL.of hC4.2, hC.len (by omega), ?_⟩
          rw [cpt_at (by omega)]
          have hxx : y = sumF mm f1 + rkN n1 * Rw (mm - f1) + x % Rw (mm - f1) := by
            rw [hr1', Int.mul_comm]
            omega
          refine ⟨_, _, rfl, rfl, _, rfl, ?_⟩
          by_cases hlast : x % Rw (mm - f1) < Pw (mm - f1)
          · rw [decide_eq_true hlast]
            refine iteT ⟨_, rfl, .inl ⟨rfl, _, SqL.of e4⟩, _, rfl, _, rfl, _, rfl, _, rfl, l, m, mm - f1, !k, _, rfl, hC4, by omega, by omega, by omega, hm0, hlast, fun n2 u2 H5 hN2 hv2 hfi2 hK2 hw2' hr2' s5 => ?_⟩
            have hv2' : valid (some k) n2 = true := by rw [Bool.not_not] at hv2; exact hv2
            have e5 := s5 _ _ e4
            refine ⟨pp, _, _, rfl, rfl, e5, small1000 (by simp; omega), ?_⟩
            have e6 : (upd H5 pp (.lst (acc ++ [u1] ++ [u2]))) pp = some (.lst (acc ++ [u1] ++ [u2])) := upd_same
            have S6 := sU H5 (.lst (acc ++ [u1] ++ [u2])) (S4.trans s5)
            have hA6 : NestsAt K (upd H5 pp (.lst (acc ++ [u1] ++ [u2]))) (qs ++ [n1] ++ [n2]) (acc ++ [u1] ++ [u2]) := NestsAt.app (NestsAt.updL e5 (hA4.mono s5)) (NestsAt.one (NestAt.updL e5 hN2))
            generalize upd H5 pp (.lst (acc ++ [u1] ++ [u2])) = H6 at e6 S6 hA6 ⊢
            refine ⟨_, rfl, _, rfl, pp, _, rfl, .inl ⟨SqL.of e6, fun tp htp => ⟨(by show 2 ≤ sizeLine; decide), fun rp hrp => ?_⟩⟩⟩
            have t1 := same_upd (o := .tup (acc ++ [u1] ++ [u2])) htp
            have t2 := same_upd (o := .tup [V.str (kS k), V.ref tp]) hrp
            have hvq2 : validL k (qs ++ [n1] ++ [n2]) = true := by rw [validL_app, hvq1]; simp [validL, hv2']
            have hfq2 : fitL (qs ++ [n1] ++ [n2]) = true := by rw [fitL_app, hfq1]; simp [fitL, hfi2]
            refine q (.knot k (qs ++ [n1] ++ [n2])) (.ref rp) _ ⟨rp, tp, _, rfl, upd_same, t2 _ _ upd_same, by simp, by simp; omega, (hA6.mono t1).mono t2⟩ ?_ ?_ (.inr ⟨_, rfl⟩) ?_ ?_ (S6.trans (t1.trans t2))
            · simp only [valid, hvq2, Bool.and_true]
              cases k <;> rfl
            · rw [Tn.fit, hfq2, decide_eq_true (by simp), Bool.and_self]
            · rw [words, wordsL_app, hwq1, wl_cons, wordsL, hw2']
              omega
            · rw [rkN]
              exact hR.last hw1' hw2' hfm (by rw [hr2']; exact hxx)
          · rw [decide_eq_false hlast]
            have hw2x : mm - f1 ≠ 1 := fun zz => by
              rw [zz] at hlast hm1
              have e1 : Rw 1 = 1 := rfl
              rw [e1] at hm1 hlast
              rw [pw_one] at hlast
              omega
            refine iteF ⟨_, rfl, _, rfl, _, rfl, l, tab.take (m + 1), mm - f1, rfl, SqL.of hC4.2, hC.len (by omega), ?_⟩
            rw [cpt_at (by omega)]
            refine ⟨_, _, rfl, rfl, mm - f1, by omega, x % Rw (mm - f1) - Pw (mm - f1), qs ++ [n1], acc ++ [u1], some (.int (f1 : Int)), _, rfl, S4, e4, hA4, hvq1, hfq1, by omega, by omega, by omega, ?_, hR.next hw1' hfm (by omega)⟩
            have := rw_eq (mm - f1)
            omega
abbrev ns_nest_at : List Str := ["many", "number", "counts"]
theorem sc_nest_at : FnScope ns_nest_at ["many", "number"] (defScope s_nest_at) := ⟨rfl, rfl, rfl, by decide +kernel, rfl, by decide +kernel, by decide +kernel⟩
theorem ok_nestat {C : Addr} (D : Def K mg "nest_at" s_nest_at ["many", "number"]) (T : Txt mg) (h_kind_counts : Has P w K mg base CX0 4 "kind_counts" ["many"] spKinds) (h_count_rows : Has P w K mg base CX0 2 "count_rows" ["counts", "words"] (spRows K)) (h_part_at : Has P w K mg base CX0 64 "part_at" ["counts", "kind", "words", "number"] (spPartAt K 60)) (mNoNumber : mg "NoNumber" = some (.ref C)) (xNoNumber : PySem.W.excIn K C bmVE "ValueError.__new__" = true) :
    Has P w K mg base (CXV P w) 65 "nest_at" ["many", "number"] (spNestAt K C) := by
  refine D.okV sc_nest_at (fun vs H Q E h => ?_) (fun f cdv A outer s H vs Q E hr h => ?_)
  · obtain ⟨m, z, rfl, _⟩ := h; rfl
  · obtain ⟨m, z, rfl, m1, m2, q, qE⟩ := h
    refine ⟨_, (pss_cons (ps_set (i := 2) sc_nest_at.nd rfl (Or.inl rfl) (pe_has h_kind_counts (hr.mono (by first | decide | omega)) (by rfl) pass0 (pa_cons (pv 0) pa_nil)))
      (pss_cons (ps_if (pt_not (pt_chain op_le op_lt pe_int (pv 1) (pe_has h_count_rows (hr.mono (by first | decide | omega)) (by rfl) pass0 (pa_cons (pv 2) (pa_cons (pv 0) pa_nil))))) (pss_one (ps_raise throwV rfl (by rfl) mNoNumber xNoNumber (pa_cons pe_str pa_nil))) pss_nil)
      (pss_cons (ps_if (pt_cmpR op_lt (pv 1) (pe_ix ix_list (pv 2) (pv 0) (fun _ _ => rfl)) (nomark _)) (pss_one (ps_ret (pe_has h_part_at hr (by rfl) pass0 (pa_cons (pv 2) (pa_cons pe_str (pa_cons (pv 0) (pa_cons (pv 1) pa_nil))))))) pss_nil)
      (pss_one (ps_ret (pe_has h_part_at hr (by rfl) pass0 (pa_cons (pv 2) (pa_cons pe_str (pa_cons (pv 0) (pa_cons (pe_op op_sub (pv 1) (pe_ix ix_list (pv 2) (pv 0) (fun _ _ => rfl))) pa_nil)))))))))), ?_⟩
    refine ⟨_, rfl, m, rfl, m1, m2, fun l H1 nl el s1 => ?_⟩
    have hC : CtsAt K H1 l m := ⟨m2, el⟩
    have no : ¬ (0 ≤ z ∧ z < Rw m) → _ := fun h => qE h H1 s1
    refine ⟨_, rfl, _, _, rfl, rfl, _, rfl, ?_⟩
    by_cases h0 : 0 ≤ z
    · rw [decide_eq_true (p := (0 : Int) ≤ z) h0]
      refine iteT ⟨_, rfl, _, rfl, l, tab.take (m + 1), m, rfl, SqL.of el, hC.len (Nat.le_refl _), ?_⟩
      rw [crow_at (Nat.le_refl _)]
      refine ⟨_, _, rfl, rfl, _, rfl, ?_⟩
      by_cases h1 : z < Rw m
      · rw [decide_eq_true h1]
        have hq := q ⟨h0, h1⟩
        refine iteF ⟨_, rfl, _, rfl, _, rfl, l, _, _, _, rfl, rfl, SqL.of el, getD_at (hC.len (Nat.le_refl _)), _, _, rfl, rfl, _, rfl, ?_⟩
        rw [getD_take (by omega)]
        by_cases h2 : z < Cw m
        · rw [decide_eq_true h2]
          have hm1 : m ≠ 1 := fun e => by subst e; rw [cw_one] at h2; omega
          refine iteT ⟨_, rfl, _, rfl, _, rfl, l, m, m, true, z, rfl, hC, m1, Nat.le_refl _, m2, h0, by rw [pw_two hm1]; exact h2, fun n v H2 hN hv hf hK hw hr2 s2 => hq n v H2 hN (valid_any hv) hf hw ?_ (s1.trans s2)⟩
          unfold numN
          have e : ofK false n = false := by
            rcases hK with rfl | ⟨ps, rfl⟩ <;> rfl
          rw [e, if_neg (by simp), Int.add_zero]
          exact hr2
        · rw [decide_eq_false h2]
          refine iteF ⟨_, rfl, _, rfl, _, rfl, _, rfl, _, rfl, l, _, _, _, rfl, rfl, SqL.of el, getD_at (hC.len (Nat.le_refl _)), _, _, rfl, rfl, ?_⟩
          rw [getD_take (by omega)]
          have h3 := rw_eq m
          refine ⟨l, m, m, false, z - Cw m, rfl, hC, m1, Nat.le_refl _, m2, by omega, by omega, fun n v H2 hN hv hf hK hw hr2 s2 => hq n v H2 hN (valid_any hv) hf hw ?_ (s1.trans s2)⟩
          unfold numN
          rcases hK with rfl | ⟨ps, rfl⟩
          · rw [words] at hw
            subst hw
            rw [show ofK false Nest.word = false from rfl, if_neg (by simp), hr2, cw_one]
            omega
          · rw [show ofK false (Nest.knot false ps) = true from rfl, if_pos rfl, hw, hr2]
            omega
      · rw [decide_eq_false h1]
        exact iteT ⟨(by show 1 ≤ sizeLine; decide), no fun h => h1 h.2⟩
    · rw [decide_eq_false (p := (0 : Int) ≤ z) h0]
      exact iteF ⟨_, rfl, iteT ⟨(by show 1 ≤ sizeLine; decide), no fun h => h0 h.1⟩⟩
abbrev ns_law_join : List Str := ["kind", "one", "other", "parts", "nest"]
theorem sc_law_join : FnScope ns_law_join ["kind", "one", "other"] (defScope s_law_join) := ⟨rfl, rfl, rfl, by decide +kernel, rfl, by decide +kernel, by decide +kernel⟩
theorem ok_join (D : Def K mg "_law_join" s_law_join ["kind", "one", "other"]) (T : Txt mg) : Has P w K mg base CX0 1 "_law_join" ["kind", "one", "other"] (spJoin K) := by
  refine D.ok sc_law_join (fun vs H Q E h => ?_) (fun f cdv A outer s H vs Q E hr h => ?_)
  · obtain ⟨k, x, y, m, n, rfl, _⟩ := h; rfl
  · obtain ⟨k, x, y, m, n, rfl, hM, hN, vm, vn, hz, q⟩ := h
    refine ⟨_, (pss_cons (ps_set (i := 3) sc_law_join.nd rfl (Or.inl rfl) (pe_lst pa_nil))
      (pss_cons (ps_for PassesOwn.never rfl (pi_tup (pe_tup (pa_cons (pv 1) (pa_cons (pv 2) pa_nil)))) (pg_name (i := 4) sc_law_join.nd rfl (Or.inl rfl)) (pss_one (ps_if (PW.pt (pw_and (pt_cmpR op_notN (pv 4) pe_non (nomark _)) (pw_and1 (pt_cmpR op_eq (pe_ix ix_tup (pv 4) pe_int (fun _ _ => rfl)) (pv 0) (nomark _))))) (pss_one (ps_expr (pe_bm PySem.F.plainAttrs_list PySem.F.slot_list_extend PySem.F.type_list_extend (r := rExtendT K) mt_extendT (pv 3) (pa_cons (pe_ix ix_tup (pv 4) pe_int (fun _ _ => rfl)) pa_nil)))) (pss_one (ps_expr (pe_bm PySem.F.plainAttrs_list PySem.F.slot_list_append PySem.F.type_list_append mt_append (pv 3) (pa_cons (pv 4) pa_nil)))))))
      (pss_one (ps_ret (pe_tup (pa_cons (pv 0) (pa_cons (pe_callTy call_tuple_of (by rfl) T.b.tup boot_ty_tuple (pa_cons (pv 3) pa_nil)) pa_nil))))))), ?_⟩
    refine ⟨(by show 0 ≤ sizeLine; omega), fun pp hpp => ?_⟩
    have s1 := same_upd (o := .lst []) hpp
    refine ⟨_, rfl, _, rfl, (by show 2 ≤ sizeLine; decide), fun tp htp => ?_⟩
    have ntp : tp ≠ pp := fun z => by rw [z, upd_same] at htp; cases htp
    have s2 : Same H (upd (upd H pp (.lst [])) tp (.tup [x, y])) := s1.trans (same_upd htp)
    have eP : (upd (upd H pp (.lst [])) tp (.tup [x, y])) pp = some (.lst []) := same_upd htp _ _ upd_same
    have eT : (upd (upd H pp (.lst [])) tp (.tup [x, y])) tp = some (.tup [x, y]) := upd_same
    generalize upd (upd H pp (.lst [])) tp (.tup [x, y]) = H2 at s2 eP eT ⊢
    have sU : ∀ (G : Hp) (o : HO), Same H G → Same H (upd G pp o) := fun G o h b ob e => by rw [upd_ne (ne_of_none e hpp)]; exact h b ob e
    have hpos := words_pos hM
    have hpos2 := words_pos hN
    -- one part of the two
    have one : ∀ (u : V) (a : Nest) (Hx : Hp) (ns : List Nest) (us : List V) (Dn : Ends), NestAt K H a u → valid none a = true → words a ≤ 900 → Same H Hx → Hx pp = some (.lst us) → Hx tp = some (.tup [x, y]) → NestsAt K Hx ns us → us.length ≤ 1000 →
        (∀ Hy us', Same H Hy → Hy pp = some (.lst us') → Hy tp = some (.tup [x, y]) → NestsAt K Hy (ns ++ partsOf k a) us' → us'.length ≤ us.length + 900 → Dn.nx [some (.str (kS k)), some x, some y, some (.ref pp), some u] Hy) →
        tIfS (tAnd (tTest (tOp (fun x y H Q => y = .non ∧ Q (.bl (!decide (x = .non))) H) (tVar 4) (tC .non))) (tTest (tOp rEq (tOp (rIxT K) (tVar 4) (tC (.int 0))) (tVar 0)))) (tDrop (tBM K "list" (rExtendT K) (tVar 3) (tCons (tOp (rIxT K) (tVar 4) (tC (.int 1))) tNil))) (tDrop (tBM K "list" rAppend (tVar 3) (tCons (tVar 4) tNil)))
          Dn [some (.str (kS k)), some x, some y, some (.ref pp), some u] Hx := by
      intro u a Hx ns us Dn hA va wa sx eX eTx hUs hul go
      have hpa := words_pos hA
      have app : Dn.nx [some (.str (kS k)), some x, some y, some (.ref pp), some u] (upd Hx pp (.lst (us ++ [u]))) ∨ partsOf k a ≠ [a] := by
        by_cases hp : partsOf k a = [a]
        · left
          refine go _ (us ++ [u]) (sU _ _ sx) upd_same (by rw [upd_ne ntp]; exact eTx) ?_ (by simp)
          rw [hp]
          exact NestsAt.updL eX (NestsAt.app hUs (NestsAt.one (hA.mono sx)))
        · exact .inr hp
      have fin : partsOf k a = [a] → tDrop (tBM K "list" rAppend (tVar 3) (tCons (tVar 4) tNil)) Dn [some (.str (kS k)), some x, some y, some (.ref pp), some u] Hx := fun hp =>
        ⟨_, rfl, .inl ⟨rfl, _, SqL.of eX⟩, _, rfl, pp, _, _, rfl, rfl, eX, small1000 (by omega), app.resolve_right fun h => h hp⟩
      cases a with
      | word =>
        have e : u = .non := hA
        subst e
        exact ⟨_, rfl, rfl, _, rfl, iteF (iteF (fin rfl))⟩
      | bad => simp [valid] at va
      | knot k' ps =>
        obtain ⟨ad, bd, ws, rfl, ea, eb, hw2, hw3, hps⟩ := hA
        refine ⟨_, rfl, rfl, _, rfl, iteT ⟨_, rfl, ad, _, 0, _, rfl, rfl, SqT.of (sx _ _ ea), rfl, _, rfl, rfl, _, rfl, ?_⟩⟩
        by_cases hk : k' = k
        · subst hk
          rw [decide_eq_true rfl]
          refine iteT ⟨_, rfl, .inl ⟨rfl, _, SqL.of eX⟩, _, rfl, ad, _, 1, _, rfl, rfl, SqT.of (sx _ _ ea), rfl, pp, bd, _, _, rfl, rfl, eX, sx _ _ eb, line_mil (by omega), ?_⟩
          have hpl := hps.len
          have hwl := wordsL_pos hps
          rw [words] at wa
          refine go _ (us ++ ws) (sU _ _ sx) upd_same (by rw [upd_ne ntp]; exact eTx) ?_ (by simp; omega)
          unfold partsOf
          dsimp only
          rw [if_pos rfl]
          exact NestsAt.updL eX (NestsAt.app hUs (hps.mono sx))
        · rw [decide_eq_false (by intro z; have z := V.str.inj z; revert z hk; cases k <;> cases k' <;> decide +kernel)]
          refine iteF (fin ?_)
          unfold partsOf
          dsimp only
          rw [if_neg hk]
    refine ⟨tp, rfl, ⟨_, SqT.of eT⟩, for_tup (K := K) (a := tp) (xs := [x, y]) (fun i σ Hx => ∃ (us : List V) (v4 : Option V), σ = [some (.str (kS k)), some x, some y, some (.ref pp), v4] ∧ Same H Hx ∧ Hx pp = some (.lst us) ∧ Hx tp = some (.tup [x, y]) ∧ us.length ≤ 900 * i ∧ NestsAt K Hx (if i = 0 then [] else if i = 1 then partsOf k m else partsOf k m ++ partsOf k n) us)
      ⟨[], none, rfl, s2, eP, eT, Nat.zero_le _, rfl⟩ (fun i σ Hx _ ⟨_, _, _, _, _, e, _⟩ => SqT.of e) ?_ ?_⟩
    · rintro i u σ Hx hi ⟨us, v4, rfl, sx, eX, eTx, hul, hUs⟩
      match i, hi with
      | 0, hi =>
        have e : u = x := by simpa using hi.symm
        subst e
        refine one u m Hx [] us _ hM vm (by omega) sx eX eTx hUs (by omega) fun Hy us' sy ey ety hus hl => ⟨us', _, rfl, sy, ey, ety, by omega, ?_⟩
        exact hus
      | 1, hi =>
        have e : u = y := by simpa using hi.symm
        subst e
        refine one u n Hx _ us _ hN vn (by omega) sx eX eTx hUs (by omega) fun Hy us' sy ey ety hus hl => ⟨us', _, rfl, sy, ey, ety, by omega, ?_⟩
        exact hus
      | i + 2, hi => simp at hi
    · rintro σ Hx ⟨us, v4, rfl, sx, eX, eTx, hul, hUs⟩
      have hUs : NestsAt K Hx (partsOf k m ++ partsOf k n) us := hUs
      have hjv := join_valid (k := k) vm vn
      have hwl := wordsL_pos hUs
      have hll := hUs.len
      have h2 : 2 ≤ us.length := by
        rw [← hll, List.length_append]
        have ne : ∀ a : Nest, 1 ≤ words a → valid none a = true → 1 ≤ (partsOf k a).length := fun a ha va => by
          have := (parts_valid (k := k) va).2
          cases hp : partsOf k a with
          | nil => rw [hp, wordsL] at this; omega
          | cons _ _ => simp
        have := ne m hpos vm
        have := ne n hpos2 vn
        omega
      have hw : wordsL (partsOf k m ++ partsOf k n) = words m + words n := by have := hjv.2; rw [words] at this; exact this
      refine ⟨_, rfl, _, rfl, pp, _, rfl, .inl ⟨SqL.of eX, fun bp hbp => ⟨(by show 2 ≤ sizeLine; decide), fun rp hrp => ?_⟩⟩⟩
      refine q (.ref rp) _ ⟨rp, bp, us, rfl, upd_same, same_upd hrp _ _ upd_same, h2, by omega, ?_⟩ (sx.trans ((same_upd hbp).trans (same_upd hrp)))
      exact (hUs.mono (same_upd hbp)).mono (same_upd hrp)
abbrev ns_law_nest : List Str := ["cells", "items", "cell", "at", "nest"]
theorem sc_law_nest : FnScope ns_law_nest ["cells"] (defScope s_law_nest) := ⟨rfl, rfl, rfl, by decide +kernel, rfl, by decide +kernel, by decide +kernel⟩
def cp_law_nest_0 (s : Stmt) : Scope := match (defBody s).getD 0 (.Pass ⟨0, 0, 0, 0⟩) with
  | .Assign _ (.ListComp _ _ sc _) _ => sc
  | _ => defScope s
theorem cs_law_nest_0 : CScope (defScope s_law_nest) (cp_law_nest_0 s_law_nest) "k" ["k"] ns_law_nest [] := cs_of (by decide +kernel)
theorem ok_lnest (D : Def K mg "_law_nest" s_law_nest ["cells"]) (T : Txt mg) (h_law_join : Has P w K mg base CX0 1 "_law_join" ["kind", "one", "other"] (spJoin K)) : Has P w K mg base CX0 2 "_law_nest" ["cells"] (spLNest K) := by
  refine D.ok sc_law_nest (fun vs H Q E h => ?_) (fun f cdv A outer s H vs Q E hr h => ?_)
  · obtain ⟨l, cs, rfl, _⟩ := h; rfl
  · obtain ⟨l, cs, rfl, hl, hz, q⟩ := h
    refine ⟨_, (pss_cons (ps_setComp (i := 1) sc_law_nest.nd rfl (Or.inl rfl) rfl cs_law_nest_0 rfl (pi_range1 rfl T.b.rng (pa_cons (pe_op op_add (pe_callB call_len_seq (by rfl) T.b.len PySem.boot_len (pa_cons (pv 0) pa_nil)) pe_int) pa_nil)) (fun cl C fp s H => pg_name (i := 0) cs_law_nest_0.nd rfl (Or.inl rfl)) (fun cl C fp s H => pts_nil) (fun cl C fp s H => pe_non) rfl)
      (pss_cons (ps_for PassesOwn.never rfl (pi_list (pv 0)) (pg_name (i := 2) sc_law_nest.nd rfl (Or.inl rfl)) (pss_cons (ps_set (i := 3) sc_law_nest.nd rfl (Or.inl rfl) (pe_op op_mod (pe_op op_fdiv (pv 2) pe_int) (pe_op op_sub (pe_callB call_len_seq (by rfl) T.b.len PySem.boot_len (pa_cons (pv 1) pa_nil)) pe_int)))
      (pss_cons (ps_set (i := 4) sc_law_nest.nd rfl (Or.inl rfl) (pe_has h_law_join hr (by rfl) pass0 (pa_cons (pe_ix ix_str pe_str (pe_op op_mod (pv 2) pe_int) (fun _ _ => rfl)) (pa_cons (pe_ix ix_list (pv 1) (pv 3) (fun _ _ => rfl)) (pa_cons (pe_ix ix_list (pv 1) (pe_op op_add (pv 3) pe_int) (fun _ _ => rfl)) pa_nil)))))
      (pss_one (ps_set (i := 1) sc_law_nest.nd rfl (Or.inl rfl) (pe_op op_cat (pe_op op_cat (pe_slice sl_list (pv 1) po_none (po_some (pv 3))) (pe_lst (pa_cons (pv 4) pa_nil))) (pe_slice sl_list (pv 1) (po_some (pe_op op_add (pv 3) pe_int)) po_none)))))))
      (pss_one (ps_ret (pe_ix ix_list (pv 1) pe_int (fun _ _ => rfl)))))), ?_⟩
    refine ⟨_, rfl, l, _, rfl, .inl hl, _, _, rfl, rfl, ((cs.map V.int).length : Int) + 1, rfl, ?_, ?_, fun D hD => ?_⟩
    · omega
    · rw [List.length_map]; omega
    rw [List.length_map, show ((cs.length : Int) + 1).toNat = cs.length + 1 by omega]
    refine comp_range (fun _ => V.non) (line1000 (by omega)) (fun i acc R hi hR => hR) ?_
    have s1 := same_upd (o := .lst ((List.range (cs.length + 1)).map fun _ => V.non)) hD
    have e1 : (upd H D (.lst ((List.range (cs.length + 1)).map fun _ => V.non))) D = some (.lst (List.replicate (cs.length + 1) V.non)) := by
      rw [upd_same]
      congr 2
      apply List.ext_getElem
      · simp
      · intro i h1 h2; simp
    generalize upd H D (.lst ((List.range (cs.length + 1)).map fun _ => V.non)) = H1 at s1 e1 ⊢
    refine ⟨_, rfl, l, rfl, ⟨_, s1.seq hl⟩, for_list (K := K) (a := l) (xs := cs.map V.int) (fun i σ Hx => ∃ (ip : Addr) (ns : List Nest) (us : List V) (v2 v3 v4 : Option V), σ = [some (.ref l), some (.ref ip), v2, v3, v4] ∧ Same H Hx ∧ Hx ip = some (.lst us) ∧ NestsAt K Hx ns us ∧ (∀ n ∈ ns, valid none n = true) ∧ wordsL ns = cs.length + 1 ∧ us.length + i = cs.length + 1)
      ⟨D, List.replicate (cs.length + 1) .word, _, none, none, none, rfl, s1, e1, NestsAt.rep _, (fun n hn => by rw [List.eq_of_mem_replicate hn]; rfl), wordsL_rep _, by simp⟩ (fun i σ Hx _ ⟨_, _, _, _, _, _, _, sx, _⟩ => sx.seq hl) ?_ ?_⟩
    · rintro i y σ Hx hi ⟨ip, ns, us, v2, v3, v4, rfl, sx, eI, hNs, hV, hW, hul⟩
      obtain ⟨c, hc, rfl⟩ := ints_get hi
      have hil : i < cs.length := (List.getElem?_eq_some_iff.mp hc).1
      have hnl := hNs.len
      refine ⟨_, rfl, _, _, rfl, rfl, ⟨by decide, by decide⟩, _, rfl, ip, _, rfl, .inl (SqL.of eI), _, _, rfl, rfl, _, _, rfl, rfl, (by show (0 : Int) < (us.length : Int) - 1; omega), ?_⟩
      obtain ⟨a, ha, ha2⟩ : ∃ a : Nat, c / 2 % ((us.length : Int) - 1) = (a : Int) ∧ a + 1 < us.length := ⟨(c / 2 % ((us.length : Int) - 1)).toNat, by have := Int.emod_nonneg (c / 2) (show ((us.length : Int) - 1) ≠ 0 by omega); omega, by
        have := Int.emod_lt_of_pos (c / 2) (show (0 : Int) < (us.length : Int) - 1 by omega)
        have := Int.emod_nonneg (c / 2) (show ((us.length : Int) - 1) ≠ 0 by omega)
        omega⟩
      show gName 3 (V.int (c / 2 % ((us.length : Int) - 1))) _ _ _
      rw [ha]
      obtain ⟨ch, hch, hck⟩ := pick2 (show c % 2 = 0 ∨ c % 2 = 1 by omega)
      have g1 : us[a]? = some us[a] := List.getElem?_eq_getElem (by omega)
      have g2 : us[a + 1]? = some us[a + 1] := List.getElem?_eq_getElem (by omega)
      obtain ⟨m1, hm1, nm1⟩ := hNs.get g1
      obtain ⟨m2, hm2, nm2⟩ := hNs.get g2
      have hsplit : ns = ns.take a ++ [m1] ++ [m2] ++ ns.drop (a + 2) := by
        have h1 : ns.take (a + 1) = ns.take a ++ [m1] := by rw [List.take_succ, hm1]; rfl
        have h2 : ns.take (a + 2) = ns.take a ++ [m1] ++ [m2] := by rw [List.take_succ, hm2, h1]; rfl
        rw [← h2, List.take_append_drop]
      have hws : wordsL ns = wordsL (ns.take a) + words m1 + words m2 + wordsL (ns.drop (a + 2)) := by
        conv => lhs; rw [hsplit]
        simp only [wordsL_app, wordsL]
        omega
      refine ⟨_, rfl, _, _, rfl, rfl, (by show (0 : Int) < 2; decide), _, _, ch, rfl, rfl, (by decide +kernel), hch, ?_⟩
      rw [hck]
      refine ⟨_, rfl, _, rfl, ip, _, _, _, rfl, rfl, SqL.of eI, atI_nat g1, _, rfl, _, rfl, _, _, rfl, rfl, ip, _, _, _, rfl, rfl, SqL.of eI, (by rw [show (a : Int) + 1 = ((a + 1 : Nat) : Int) by omega]; exact atI_nat g2), ?_⟩
      refine ⟨_, _, _, m1, m2, rfl, nm1, nm2, hV m1 (List.mem_of_getElem? hm1), hV m2 (List.mem_of_getElem? hm2), by omega, fun v H3 hv s3 => ?_⟩
      have hj := join_valid (k := decide (c % 2 = 0)) (hV m1 (List.mem_of_getElem? hm1)) (hV m2 (List.mem_of_getElem? hm2))
      have eI3 := s3 _ _ eI
      refine ⟨_, rfl, _, rfl, _, rfl, ip, _, rfl, SqL.of eI3, fun x4 hx4 => ⟨_, rfl, (by show 1 ≤ sizeLine; decide), fun x5 hx5 => ?_⟩⟩
      rw [cutN_head us a (by omega)] at hx5 ⊢
      refine ⟨x4, x5, us.take a, [v], rfl, rfl, same_upd hx5 _ _ upd_same, upd_same, line1000 (by simp; omega), fun x6 hx6 => ?_⟩
      have s4 := (same_upd (o := .lst (us.take a)) hx4).trans ((same_upd (o := .lst [v]) hx5).trans (same_upd (o := .lst (us.take a ++ [v])) hx6))
      have e4 : (upd (upd (upd H3 x4 (.lst (us.take a))) x5 (.lst [v])) x6 (.lst (us.take a ++ [v]))) x6 = some (.lst (us.take a ++ [v])) := upd_same
      generalize upd (upd (upd H3 x4 (.lst (us.take a))) x5 (.lst [v])) x6 (.lst (us.take a ++ [v])) = H4 at s4 e4 ⊢
      refine ⟨_, rfl, _, rfl, _, _, rfl, rfl, _, rfl, ip, _, rfl, SqL.of (s4 _ _ eI3), fun x7 hx7 => ?_⟩
      rw [show (a : Int) + 2 = ((a + 2 : Nat) : Int) by omega, cutN_tail us (a + 2) (by omega)]
      refine ⟨x6, x7, _, _, rfl, rfl, same_upd hx7 _ _ e4, upd_same, line1000 (by simp; omega), fun x8 hx8 => ?_⟩
      have s5 := (same_upd (o := .lst (us.drop (a + 2))) hx7).trans (same_upd (o := .lst (us.take a ++ [v] ++ us.drop (a + 2))) hx8)
      have S5 : Same Hx _ := s3.trans (s4.trans s5)
      refine ⟨x8, ns.take a ++ [.knot (decide (c % 2 = 0)) (partsOf (decide (c % 2 = 0)) m1 ++ partsOf (decide (c % 2 = 0)) m2)] ++ ns.drop (a + 2), us.take a ++ [v] ++ us.drop (a + 2), _, _, _, rfl, sx.trans S5, upd_same, ?_, fun n hn => ?_, ?_, ?_⟩
      · exact NestsAt.app (NestsAt.app ((nests_take a hNs).mono S5) (NestsAt.one (hv.mono (s4.trans s5)))) ((nests_drop (a + 2) hNs).mono S5)
      · rcases List.mem_append.mp hn with hn | hn
        · rcases List.mem_append.mp hn with hn | hn
          · exact hV n (List.mem_of_mem_take hn)
          · rw [List.mem_singleton.mp hn]; exact hj.1
        · exact hV n (List.mem_of_mem_drop hn)
      · simp only [wordsL_app]
        rw [show ∀ z, wordsL [z] = words z from fun z => by simp [wordsL], hj.2]
        omega
      · simp; omega
    · rintro σ Hx ⟨ip, ns, us, v2, v3, v4, rfl, sx, eI, hNs, hV, hW, hul⟩
      rw [List.length_map] at hul
      have h1 : us.length = 1 := by omega
      match us, h1 with
      | [v], _ =>
        obtain ⟨n, hn, nv⟩ := hNs.get (i := 0) (v := v) rfl
        have hnl := hNs.len
        match ns, hnl with
        | [n'], _ =>
          have e : n' = n := by simpa using hn
          subst e
          refine ⟨_, rfl, ip, _, 0, v, rfl, rfl, SqL.of eI, rfl, q n' v Hx nv (hV n' List.mem_cons_self) ?_ sx⟩
          rw [wordsL, wordsL] at hW
          exact hW
abbrev ns_law_row : List Str := ["nest", "first", "rows", "part", "row", "found"]
theorem sc_law_row : FnScope ns_law_row ["nest", "first"] (defScope s_law_row) := ⟨rfl, rfl, rfl, by decide +kernel, rfl, by decide +kernel, by decide +kernel⟩
theorem ok_row (D : Def K mg "_law_row" s_law_row ["nest", "first"]) (T : Txt mg) : ∀ d, Has P w K mg base CX0 d "_law_row" ["nest", "first"] (spRow K d)
  | 0 => D.rec0 fun vs H Q E ⟨_, _, _, _, _, _, _, h, _⟩ => absurd h (Nat.not_lt_zero _)
  | d + 1 => by
    have h_law_row := ok_row D T d
    refine D.ok sc_law_row (fun vs H Q E h => ?_) (fun f cdv A outer s H vs Q E hr h => ?_)
    · obtain ⟨v, n, o, f, rfl, _⟩ := h; rfl
    · obtain ⟨v, n, o, ff, rfl, hN, hv, hd, hw, q⟩ := h
      refine ⟨_, (pss_cons (ps_if (pt_cmpR op_isN (pv 0) pe_non (nomark _)) (pss_one (ps_ret (pe_lst (pa_cons (pv 1) pa_nil)))) pss_nil)
      (pss_cons (ps_set (i := 2) sc_law_row.nd rfl (Or.inl rfl) (pe_lst pa_nil))
      (pss_cons (ps_for PassesOwn.never rfl (pi_tup (pe_ix ix_tup (pv 0) pe_int (fun _ _ => rfl))) (pg_name (i := 3) sc_law_row.nd rfl (Or.inl rfl)) (pss_cons (ps_set (i := 4) sc_law_row.nd rfl (Or.inl rfl) (pe_has h_law_row hr (by rfl) pass0 (pa_cons (pv 3) (pa_cons (pv 1) pa_nil))))
      (pss_cons (ps_expr (pe_bm PySem.F.plainAttrs_list PySem.F.slot_list_append PySem.F.type_list_append mt_append (pv 2) (pa_cons (pv 4) pa_nil)))
      (pss_one (ps_set (i := 1) sc_law_row.nd rfl (Or.inl rfl) (pe_op op_add (pv 1) (pe_callB call_len_seq (by rfl) T.b.len PySem.boot_len (pa_cons (pv 4) pa_nil))))))))
      (pss_cons (ps_if (pt_cmpR op_eq (pe_ix ix_tup (pv 0) pe_int (fun _ _ => rfl)) pe_str (nomark _)) (pss_one (ps_expr (pe_bm0 PySem.F.plainAttrs_list PySem.F.slot_list_reverse PySem.F.type_list_reverse mt_reverse (pv 2)))) pss_nil)
      (pss_cons (ps_set (i := 5) sc_law_row.nd rfl (Or.inl rfl) (pe_lst pa_nil))
      (pss_cons (ps_for PassesOwn.never rfl (pi_list (pv 2)) (pg_name (i := 4) sc_law_row.nd rfl (Or.inl rfl)) (pss_one (ps_expr (pe_bm PySem.F.plainAttrs_list PySem.F.slot_list_extend PySem.F.type_list_extend mt_extend (pv 5) (pa_cons (pv 4) pa_nil)))))
      (pss_one (ps_ret (pv 5))))))))), ?_⟩
      cases n with
      | word =>
        have e : v = .non := hN
        subst e
        exact ⟨_, rfl, rfl, _, rfl, iteT ⟨_, rfl, (by show 1 ≤ sizeLine; decide), fun p hp => q p _ hp (by rw [upd_same, rowN]; rfl) (same_upd hp)⟩⟩
      | bad => exact absurd hv (by simp [valid])
      | knot k ps =>
        obtain ⟨a, b, us, rfl, ea, eb, hu2, hu3, hps⟩ := hN
        have hpl := hps.len
        have hvp : validL k ps = true := by simp only [valid, Bool.and_eq_true] at hv; exact hv.2
        rw [words] at hw
        refine ⟨_, rfl, rfl, _, rfl, iteF ⟨(by show 0 ≤ sizeLine; omega), fun rp hrp => ?_⟩⟩
        have s1 := same_upd (o := .lst []) hrp
        have sU : ∀ (G : Hp) (o : HO), Same H G → Same H (upd G rp o) := fun G o h b ob e => by rw [upd_ne (ne_of_none e hrp)]; exact h b ob e
        refine ⟨_, rfl, a, _, 1, _, rfl, rfl, SqT.of (s1 _ _ ea), rfl, b, rfl, ⟨_, SqT.of (s1 _ _ eb)⟩, ?_⟩
        refine for_tup (K := K) (a := b) (xs := us) (fun i σ Hx => ∃ (rs : List Addr) (f : Int) (v3 v4 v5 : Option V), σ = [some (.ref a), some (.int f), some (.ref rp), v3, v4, v5] ∧ Same H Hx ∧ Hx rp = some (.lst (rs.map V.ref)) ∧ LstsAt Hx rs ((rowsN ps ff).take i) ∧ rp ∉ rs ∧ rs.length = i ∧ i ≤ us.length ∧ rowsN ps ff = (rowsN ps ff).take i ++ rowsN (ps.drop i) f)
          ⟨[], ff, none, none, none, rfl, s1, upd_same, .nil, by simp, rfl, Nat.zero_le _, by rw [List.take_zero, List.drop_zero]; rfl⟩ (fun i σ Hx _ ⟨_, _, _, _, _, _, sx, _⟩ => SqT.of (sx _ _ eb)) ?_ ?_
        · rintro i y σ Hx hi ⟨rs, f, v3, v4, v5, rfl, sx, eR, hL, hnr, hrl, hiu, hsp⟩
          obtain ⟨nn, hnn, hnv⟩ := hps.get hi
          have hil : i < ps.length := (List.getElem?_eq_some_iff.mp hnn).1
          have hdn := depthL_get hnn
          have hwn := wordsL_at hnn
          have hvn := validL_get hvp hnn
          simp only [depthN] at hd
          refine ⟨_, rfl, _, rfl, y, nn, some k, f, rfl, hnv.mono sx, hvn, by omega, by omega, fun np H3 nnp enp s3 => ?_⟩
          have nrn : np ≠ rp := fun z => by rw [z, eR] at nnp; cases nnp
          have eR3 := s3 _ _ eR
          refine ⟨_, rfl, .inl ⟨rfl, _, SqL.of eR3⟩, _, rfl, rp, _, _, rfl, rfl, eR3, small1000 (by rw [List.length_map]; omega), ?_⟩
          have enp4 : (upd H3 rp (.lst (rs.map V.ref ++ [V.ref np]))) np = some (.lst ((rowN nn f).map V.int)) := by rw [upd_ne nrn]; exact enp
          refine ⟨_, rfl, _, rfl, np, _, rfl, .inl (SqL.of enp4), _, _, rfl, rfl, ?_⟩
          have hdr : ps.drop i = nn :: ps.drop (i + 1) := by
            rw [List.drop_eq_getElem_cons hil]
            congr 1
            exact (List.getElem?_eq_some_iff.mp hnn).2
          rw [hdr, rowsN] at hsp
          have htl : ((rowsN ps ff).take i).length = i := by
            have := hL.len
            omega
          have htk : (rowsN ps ff).take (i + 1) = (rowsN ps ff).take i ++ [rowN nn f] := by
            have : (rowsN ps ff)[i]? = some (rowN nn f) := by
              rw [hsp, List.getElem?_append_right (by omega), htl, Nat.sub_self]
              rfl
            rw [List.take_succ, this]
            rfl
          refine ⟨rs ++ [np], f + ((rowN nn f).length : Int), _, _, _, by rw [List.length_map]; rfl, sU _ _ (sx.trans s3), by rw [upd_same, List.map_append]; rfl, ?_, ?_, by simp; omega, by omega, ?_⟩
          · rw [htk]
            exact LstsAt.app (LstsAt.upd hnr (hL.mono s3)) (.cons enp4 .nil)
          · simp only [List.mem_append, List.mem_singleton, not_or]
            exact ⟨hnr, nrn.symm⟩
          · rw [htk, List.append_assoc]
            exact hsp
        · rintro σ Hx ⟨rs, f, v3, v4, v5, rfl, sx, eR, hL, hnr, hrl, hiu, hsp⟩
          have hrows : (rowsN ps ff).take us.length = rowsN ps ff := by
            rw [← hpl, List.drop_length, rowsN, List.append_nil] at hsp
            rw [← hpl]; exact hsp.symm
          rw [hrows] at hL
          -- the rows in their order
          dsimp only
          refine seq_if (fun σ' Hy => ∃ rs' : List Addr, σ' = [some (.ref a), some (.int f), some (.ref rp), v3, v4, v5] ∧ Same H Hy ∧ Hy rp = some (.lst (rs'.map V.ref)) ∧ LstsAt Hy rs' (if k then rowsN ps ff else (rowsN ps ff).reverse) ∧ rp ∉ rs') ?_ fun hrest => ?_
          · rintro σ' Hy ⟨rs', rfl, sy, eRy, hLy, hny⟩
            refine ⟨(by show 0 ≤ sizeLine; omega), fun fp hfp => ?_⟩
            have s2 := same_upd (o := .lst []) hfp
            have hfp0 : H fp = none := sy.free hfp
            have hfr : fp ∉ rs' := fun hm => by
              obtain ⟨i, hi, e⟩ := List.getElem_of_mem hm
              obtain ⟨x, _, ex⟩ := hLy.get (i := i) (p := fp) (by rw [List.getElem?_eq_getElem hi, e])
              rw [hfp] at ex; cases ex
            have nfr : rp ≠ fp := ne_of_none eRy hfp
            refine ⟨_, rfl, rp, rfl, ⟨_, SqL.of (s2 _ _ eRy)⟩, for_list (K := K) (a := rp) (xs := rs'.map V.ref) (fun i σ Hz => ∃ (v3 v4 : Option V), σ = [some (.ref a), some (.int f), some (.ref rp), v3, v4, some (.ref fp)] ∧ Same H Hz ∧ Hz rp = some (.lst (rs'.map V.ref)) ∧ Hz fp = some (.lst ((((if k then rowsN ps ff else (rowsN ps ff).reverse).take i).flatten).map V.int)) ∧ LstsAt Hz rs' (if k then rowsN ps ff else (rowsN ps ff).reverse))
              ⟨v3, v4, rfl, sy.trans s2, s2 _ _ eRy, upd_same, hLy.mono s2⟩ (fun i σ Hz _ ⟨_, _, _, _, e, _⟩ => SqL.of e) ?_ ?_⟩
            · rintro i y σ Hz hi ⟨v3', v4', rfl, sz, eRz, eFz, hLz⟩
              obtain ⟨p, hp, rfl⟩ := refs_get hi
              obtain ⟨x, hx, ex⟩ := hLz.get hp
              have hxl : x.length ≤ 1000 ∧ (((if k then rowsN ps ff else (rowsN ps ff).reverse).take i).flatten).length ≤ 1000 := by
                have hall := flat_le hx
                have ht : (if k then rowsN ps ff else (rowsN ps ff).reverse).flatten.length = wordsL ps := by
                  have := (row_perm (.knot k ps) o ff hv).length_eq
                  rw [rowN, words] at this
                  rw [this]; simp [Tn.fromTo, upto]
                omega
              refine ⟨_, rfl, .inl ⟨rfl, _, SqL.of eFz⟩, _, rfl, fp, p, _, _, rfl, rfl, eFz, ex, line_mil (by simp only [List.length_map]; omega), ?_⟩
              refine ⟨_, _, rfl, fun b' o' e' => by rw [upd_ne (ne_of_none e' hfp0)]; exact sz b' o' e', by rw [upd_ne nfr]; exact eRz, ?_, LstsAt.upd hfr hLz⟩
              rw [upd_same, List.take_succ, hx, List.flatten_append, List.map_append]
              show _ = some (HO.lst (_ ++ List.map V.int ([x].flatten)))
              rw [List.flatten_cons, List.flatten_nil, List.append_nil]
            · rintro σ Hz ⟨v3', v4', rfl, sz, eRz, eFz, hLz⟩
              have hl2 := hLy.len
              rw [List.length_map, hl2, List.take_length] at eFz
              refine ⟨_, rfl, q fp Hz hfp0 ?_ sz⟩
              rw [eFz, rowN]
          · refine ⟨_, rfl, a, _, 0, _, rfl, rfl, SqT.of (sx _ _ ea), rfl, rfl, _, rfl, ?_⟩
            cases k with
            | true => exact iteF (hrest _ _ ⟨rs, rfl, sx, eR, hL, hnr⟩)
            | false =>
              refine iteT ⟨_, rfl, .inl ⟨rfl, _, SqL.of eR⟩, rp, _, rfl, rfl, eR, hrest _ _ ⟨rs.reverse, rfl, sU _ _ sx, ?_, ?_, by simpa using hnr⟩⟩
              · rw [upd_same, List.map_reverse]
              · exact (LstsAt.upd hnr hL).rev
abbrev ns_law_cell_at : List Str := ["script", "k"]
theorem sc_law_cell_at : FnScope ns_law_cell_at ["script", "k"] (defScope s_law_cell_at) := ⟨rfl, rfl, rfl, by decide +kernel, rfl, by decide +kernel, by decide +kernel⟩
theorem ok_cellat (D : Def K mg "_law_cell_at" s_law_cell_at ["script", "k"]) (T : Txt mg) : Has P w K mg base CX0 1 "_law_cell_at" ["script", "k"] (spCellAt K) := by
  refine D.ok sc_law_cell_at (fun vs H Q E h => ?_) (fun f cdv A outer s H vs Q E hr h => ?_)
  · obtain ⟨a, ns, k, rfl, _⟩ := h; rfl
  · obtain ⟨a, ns, k, rfl, hl, q⟩ := h
    refine ⟨_, (pss_cons (ps_if (pt_cmpR op_lt (pv 1) (pe_callB call_len_seq (by rfl) T.b.len PySem.boot_len (pa_cons (pv 0) pa_nil)) (nomark _)) (pss_one (ps_ret (pe_ix ix_list (pv 0) (pv 1) (fun _ _ => rfl)))) pss_nil)
      (pss_one (ps_ret pe_int))), ?_⟩
    refine ⟨_, rfl, _, rfl, a, _, rfl, .inl hl, _, _, rfl, rfl, _, rfl, ?_⟩
    rw [List.length_map]
    by_cases h : k < ns.length
    · rw [decide_eq_true (by omega)]
      exact iteT ⟨_, rfl, _, rfl, a, _, _, _, rfl, rfl, hl, at_ints (List.getElem?_eq_getElem h), q _⟩
    · rw [decide_eq_false (by omega)]
      exact iteF (q _)
abbrev ns_law_size : List Str := ["nest"]
theorem sc_law_size : FnScope ns_law_size ["nest"] (defScope s_law_size) := ⟨rfl, rfl, rfl, by decide +kernel, rfl, by decide +kernel, by decide +kernel⟩
theorem ok_lsize (D : Def K mg "_law_size" s_law_size ["nest"]) (T : Txt mg) (h_row : ∀ d, Has P w K mg base CX0 d "_law_row" ["nest", "first"] (spRow K d)) (d : Nat) : Has P w K mg base CX0 (d + 1) "_law_size" ["nest"] (spLSize K d) := by
  have h_law_row := h_row d
  refine D.ok sc_law_size (fun vs H Q E h => ?_) (fun f cdv A outer s H vs Q E hr h => ?_)
  · obtain ⟨v, n, o, rfl, _⟩ := h; rfl
  · obtain ⟨v, n, o, rfl, hN, hv, hd, hw, q⟩ := h
    refine ⟨_, (pss_one (ps_ret (pe_callB call_len_seq (by rfl) T.b.len PySem.boot_len (pa_cons (pe_has h_law_row hr (by rfl) pass0 (pa_cons (pv 0) (pa_cons pe_int pa_nil))) pa_nil)))), ?_⟩
    refine ⟨_, rfl, v, n, o, 0, rfl, hN, hv, hd, by omega, fun p H1 np ep s1 => ⟨p, _, rfl, .inl (SqL.of ep), ?_⟩⟩
    rw [List.length_map, row_len 0 hv]
    exact q H1 s1
abbrev ns_law_key : List Str := ["nest", "found", "k"]
theorem sc_law_key : FnScope ns_law_key ["nest"] (defScope s_law_key) := ⟨rfl, rfl, rfl, by decide +kernel, rfl, by decide +kernel, by decide +kernel⟩
theorem ok_key (D : Def K mg "_law_key" s_law_key ["nest"]) (T : Txt mg) (h_size : ∀ d, Has P w K mg base CX0 (d + 1) "_law_size" ["nest"] (spLSize K d)) : ∀ d, Has P w K mg base CX0 (d + 1) "_law_key" ["nest"] (spKey K d)
  | 0 => D.rec0 fun vs H Q E ⟨_, _, _, _, _, _, h, _⟩ => absurd h (Nat.not_lt_zero _)
  | d + 1 => by
    have h_law_key := ok_key D T h_size d
    have h_law_size := h_size d
    refine D.ok sc_law_key (fun vs H Q E h => ?_) (fun f cdv A outer s H vs Q E hr h => ?_)
    · obtain ⟨v, n, o, rfl, _⟩ := h; rfl
    · obtain ⟨v, n, o, rfl, hN, hv, hd, hw, q⟩ := h
      refine ⟨_, (pss_cons (ps_set (i := 1) sc_law_key.nd rfl (Or.inl rfl) (pe_lst pa_nil))
      (pss_cons (ps_if (pt_cmpR op_notN (pv 0) pe_non (nomark _)) (pss_one (ps_for PassesOwn.never rfl (pi_range1 rfl T.b.rng (pa_cons (pe_callB call_len_seq (by rfl) T.b.len PySem.boot_len (pa_cons (pe_ix ix_tup (pv 0) pe_int (fun _ _ => rfl)) pa_nil)) pa_nil)) (pg_name (i := 2) sc_law_key.nd rfl (Or.inl rfl)) (pss_cons (ps_if (pt_cmpR op_gt (pv 2) pe_int (nomark _)) (pss_one (ps_expr (pe_bm PySem.F.plainAttrs_list PySem.F.slot_list_append PySem.F.type_list_append mt_append (pv 1) (pa_cons (pe_callTy call_int1 (by rfl) T.b.int boot_ty_int (pa_cons (pe_cmpR op_lt (pe_op op_add (pv 2) pe_int) (pe_callB call_len_seq (by rfl) T.b.len PySem.boot_len (pa_cons (pe_ix ix_tup (pv 0) pe_int (fun _ _ => rfl)) pa_nil)) (nomark _)) pa_nil)) pa_nil)))) pss_nil)
      (pss_cons (ps_if (pt_cmpR op_lt (pe_op op_add (pv 2) pe_int) (pe_callB call_len_seq (by rfl) T.b.len PySem.boot_len (pa_cons (pe_ix ix_tup (pv 0) pe_int (fun _ _ => rfl)) pa_nil)) (nomark _)) (pss_one (ps_expr (pe_bm PySem.F.plainAttrs_list PySem.F.slot_list_append PySem.F.type_list_append mt_append (pv 1) (pa_cons (pe_has h_law_size hr (by rfl) pass0 (pa_cons (pe_ix ix_tup (pe_ix ix_tup (pv 0) pe_int (fun _ _ => rfl)) (pv 2) (fun _ _ => rfl)) pa_nil)) pa_nil)))) pss_nil)
      (pss_one (ps_expr (pe_bm PySem.F.plainAttrs_list PySem.F.slot_list_extend PySem.F.type_list_extend mt_extend (pv 1) (pa_cons (pe_has h_law_key hr (by rfl) pass0 (pa_cons (pe_ix ix_tup (pe_ix ix_tup (pv 0) pe_int (fun _ _ => rfl)) (pv 2) (fun _ _ => rfl)) pa_nil)) pa_nil)))))))) pss_nil)
      (pss_one (ps_ret (pv 1))))), ?_⟩
      refine ⟨(by show 0 ≤ sizeLine; omega), fun fp hfp => ?_⟩
      have s1 := same_upd (o := .lst []) hfp
      have e1 : (upd H fp (.lst [])) fp = some (.lst []) := upd_same
      generalize upd H fp (.lst []) = H1 at s1 e1 ⊢
      cases n with
      | bad => simp [valid] at hv
      | word =>
        have e : v = .non := hN
        subst e
        exact ⟨_, rfl, rfl, _, rfl, iteF ⟨_, rfl, q fp H1 hfp (by rw [keyN]; exact e1) s1⟩⟩
      | knot k ps =>
        have hfit := hN.fit hv
        obtain ⟨a, b, us, rfl, ea, eb, hu2, hu3, hps⟩ := hN
        have hpl := hps.len
        have hvp : validL k ps = true := by simp only [valid, Bool.and_eq_true] at hv; exact hv.2
        have hfl : fitL ps = true := by rw [Tn.fit, Bool.and_eq_true] at hfit; exact hfit.2
        simp only [depthN] at hd
        rw [words] at hw
        have hkl := keyL_len true hfl (List.ne_nil_of_length_pos (by omega))
        simp only [if_true] at hkl
        rw [keyN] at q
        have sU : ∀ (G : Hp) (o : HO), Same H G → Same H (upd G fp o) := fun G o h b ob e => by rw [upd_ne (ne_of_none e hfp)]; exact h b ob e
        refine ⟨_, rfl, rfl, _, rfl, iteT ?_⟩
        refine ⟨_, rfl, a, _, 1, _, rfl, rfl, SqT.of (s1 _ _ ea), rfl, b, _, rfl, .inr (SqT.of (s1 _ _ eb)), (us.length : Int), rfl, by omega, by omega, ?_⟩
        rw [Int.toNat_natCast]
        refine for_range (n := us.length) (lo := 0) (fun i σ Hx => ∃ (acc : List Int) (v2 : Option V), σ = [some (.ref a), some (.ref fp), v2] ∧ Same H Hx ∧ Hx fp = some (.lst (acc.map V.int)) ∧ acc ++ keyL (decide (i = 0)) (ps.drop i) = keyL true ps) ⟨[], none, rfl, s1, e1, by rw [List.drop_zero]; rfl⟩ ?_ ?_
        · rintro i σ Hx hi ⟨acc, v2, rfl, sx, eF, hacc⟩
          have hip : i < ps.length := by omega
          obtain ⟨nn, hnn⟩ : ∃ nn, ps[i]? = some nn := ⟨_, List.getElem?_eq_getElem hip⟩
          obtain ⟨y, hy⟩ : ∃ y, us[i]? = some y := ⟨_, List.getElem?_eq_getElem hi⟩
          obtain ⟨n', hn', hnv⟩ := hps.get hy
          rw [hnn] at hn'
          cases hn'
          have hdn := depthL_get hnn
          have hwn := wordsL_at hnn
          have hvn := validL_get hvp hnn
          have hfn := fitL_mem hfl (List.mem_of_getElem? hnn)
          have hdr : ps.drop i = nn :: ps.drop (i + 1) := by
            rw [List.drop_eq_getElem_cons hip]
            congr 1
            exact (List.getElem?_eq_some_iff.mp hnn).2
          have hal : acc.length ≤ 200 := by
            have := congrArg List.length hacc
            rw [List.length_append] at this
            omega
          have hkn := key_len hfn
          have haty : atI us ((0 : Int) + (i : Int)) = some y := by
            rw [show (0 : Int) + (i : Int) = ((i : Nat) : Int) by omega]
            exact atI_nat hy
          rw [hdr] at hacc
          refine gname_go ?_
          dsimp only [List.set]
          -- the flag
          refine seq_if (fun σ' Hy => ∃ acc1 : List Int, σ' = [some (.ref a), some (.ref fp), some (.int (0 + (i : Int)))] ∧ Same H Hy ∧ Hy fp = some (.lst (acc1.map V.int)) ∧ acc1.length ≤ 201 ∧ acc1 ++ (if i + 1 < us.length then [((words nn : Nat) : Int)] else []) ++ keyN nn ++ keyL false (ps.drop (i + 1)) = keyL true ps) ?_ fun hrest => ?_
          · rintro σ' Hy ⟨acc1, rfl, sy, eY, hl1, hacc1⟩
            refine seq_if (fun σ' Hy => ∃ acc2 : List Int, σ' = [some (.ref a), some (.ref fp), some (.int (0 + (i : Int)))] ∧ Same H Hy ∧ Hy fp = some (.lst (acc2.map V.int)) ∧ acc2.length ≤ 202 ∧ acc2 ++ keyN nn ++ keyL false (ps.drop (i + 1)) = keyL true ps) ?_ fun hrest2 => ?_
            · rintro σ' Hz ⟨acc2, rfl, sz, eZ, hl2, hacc2⟩
              refine ⟨_, rfl, .inl ⟨rfl, _, SqL.of eZ⟩, _, rfl, a, _, 1, _, rfl, rfl, SqT.of (sz _ _ ea), rfl, _, rfl, b, _, _, _, rfl, rfl, SqT.of (sz _ _ eb), haty, y, nn, some k, rfl, hnv.mono sz, hvn, by omega, by omega, fun p H3 np ep s3 => ?_⟩
              have eZ3 := s3 _ _ eZ
              refine ⟨fp, p, _, _, rfl, rfl, eZ3, ep, line_mil (by rw [List.length_map, List.length_map]; omega), acc2 ++ keyN nn, _, rfl, sU _ _ (sz.trans s3), by rw [upd_same, List.map_append], ?_⟩
              rw [decide_eq_false (by omega)]
              exact hacc2
            · refine ⟨_, rfl, _, _, rfl, rfl, _, rfl, a, _, 1, _, rfl, rfl, SqT.of (sy _ _ ea), rfl, b, _, rfl, .inr (SqT.of (sy _ _ eb)), _, _, rfl, rfl, _, rfl, ?_⟩
              by_cases hlast : i + 1 < us.length
              · rw [decide_eq_true (p := (0 : Int) + (i : Int) + 1 < (us.length : Int)) (by omega)]
                rw [if_pos hlast] at hacc1
                refine iteT ⟨_, rfl, .inl ⟨rfl, _, SqL.of eY⟩, _, rfl, a, _, 1, _, rfl, rfl, SqT.of (sy _ _ ea), rfl, _, rfl, b, _, _, _, rfl, rfl, SqT.of (sy _ _ eb), haty, y, nn, some k, rfl, hnv.mono sy, hvn, by omega, by omega, fun H3 s3 => ?_⟩
                have eY3 := s3 _ _ eY
                exact ⟨fp, _, _, rfl, rfl, eY3, small1000 (by rw [List.length_map]; omega), hrest2 _ _ ⟨acc1 ++ [((words nn : Nat) : Int)], rfl, sU _ _ (sy.trans s3), by rw [upd_same, List.map_append]; rfl, by simp; omega, hacc1⟩⟩
              · rw [decide_eq_false (p := (0 : Int) + (i : Int) + 1 < (us.length : Int)) (by omega)]
                rw [if_neg hlast, List.append_nil] at hacc1
                exact iteF (hrest2 _ _ ⟨acc1, rfl, sy, eY, by omega, hacc1⟩)
          · refine ⟨_, rfl, _, _, rfl, rfl, _, rfl, ?_⟩
            by_cases hi0 : i = 0
            · rw [decide_eq_false (p := (0 : Int) + (i : Int) > 0) (by omega)]
              rw [decide_eq_true hi0, keyL_more _ _ (List.ne_nil_of_length_pos (by rw [List.length_drop]; omega)), if_pos rfl, List.nil_append] at hacc
              refine iteF (hrest _ _ ⟨acc, rfl, sx, eF, by omega, ?_⟩)
              rw [if_pos (by omega)]
              simpa [List.append_assoc] using hacc
            · rw [decide_eq_true (p := (0 : Int) + (i : Int) > 0) (by omega)]
              rw [decide_eq_false hi0] at hacc
              refine iteT ⟨_, rfl, .inl ⟨rfl, _, SqL.of eF⟩, _, rfl, _, _, rfl, rfl, _, rfl, a, _, 1, _, rfl, rfl, SqT.of (sx _ _ ea), rfl, b, _, rfl, .inr (SqT.of (sx _ _ eb)), _, _, rfl, rfl, .inr ⟨_, rfl, ?_⟩⟩
              refine ⟨fp, _, _, rfl, rfl, eF, small1000 (by rw [List.length_map]; omega), ?_⟩
              by_cases hlast : i + 1 < us.length
              · rw [decide_eq_true (p := (0 : Int) + (i : Int) + 1 < (us.length : Int)) (by omega)]
                rw [keyL_more _ _ (List.ne_nil_of_length_pos (by rw [List.length_drop]; omega)), if_neg (by simp)] at hacc
                refine hrest _ _ ⟨acc ++ [1], rfl, sU _ _ sx, by rw [upd_same, List.map_append]; rfl, by simp; omega, ?_⟩
                rw [if_pos hlast]
                simpa [List.append_assoc] using hacc
              · rw [decide_eq_false (p := (0 : Int) + (i : Int) + 1 < (us.length : Int)) (by omega)]
                have hde : ps.drop (i + 1) = [] := List.drop_eq_nil_of_le (by omega)
                rw [hde, keyL_one, if_neg (by simp)] at hacc
                refine hrest _ _ ⟨acc ++ [0], rfl, sU _ _ sx, by rw [upd_same, List.map_append]; rfl, by simp; omega, ?_⟩
                rw [if_neg hlast, hde, show keyL false [] = [] by rw [keyL]]
                simpa [List.append_assoc] using hacc
        · rintro σ Hx ⟨acc, v2, rfl, sx, eF, hacc⟩
          rw [← hpl, List.drop_length, show ∀ b, keyL b [] = [] from fun b => by rw [keyL], List.append_nil] at hacc
          subst hacc
          exact ⟨_, rfl, q fp Hx hfp eF sx⟩
abbrev ns_law_ahead : List Str := ["one", "other"]
theorem sc_law_ahead : FnScope ns_law_ahead ["one", "other"] (defScope s_law_ahead) := ⟨rfl, rfl, rfl, by decide +kernel, rfl, by decide +kernel, by decide +kernel⟩
theorem ok_ahead (D : Def K mg "_law_ahead" s_law_ahead ["one", "other"]) (T : Txt mg) (h_law_key : Has P w K mg base CX0 63 "_law_key" ["nest"] (spKey K 62)) : Has P w K mg base CX0 64 "_law_ahead" ["one", "other"] (spAhead K) := by
  refine D.ok sc_law_ahead (fun vs H Q E h => ?_) (fun f cdv A outer s H vs Q E hr h => ?_)
  · obtain ⟨v, u, n, m, rfl, _⟩ := h; rfl
  · obtain ⟨v, u, n, m, rfl, hN, hM, hv, hv2, hww, hw2, hw60, hnum, q⟩ := h
    refine ⟨_, (pss_cons (ps_if (pt_cmpR op_ne (pe_ix ix_tup (pv 0) pe_int (fun _ _ => rfl)) (pe_ix ix_tup (pv 1) pe_int (fun _ _ => rfl)) (nomark _)) (pss_one (ps_ret (pe_cmpR op_eq (pe_ix ix_tup (pv 0) pe_int (fun _ _ => rfl)) pe_str (nomark _)))) pss_nil)
      (pss_one (ps_ret (pe_cmpR (op_ltS hr.units0) (pe_has h_law_key hr (by rfl) pass0 (pa_cons (pv 0) pa_nil)) (pe_has h_law_key hr (by rfl) pass0 (pa_cons (pv 1) pa_nil)) (nomark _))))), ?_⟩
    have hf1 := hN.fit hv
    have hf2 := hM.fit hv2
    have hd1 := depth_words hN
    have hd2 := depth_words hM
    obtain ⟨k, ps, a, b, rfl, rfl, ea⟩ := knot_of_two hN hv hw2
    obtain ⟨k2, qs, a2, b2, rfl, rfl, ea2⟩ := knot_of_two hM hv2 (by omega)
    refine ⟨_, rfl, a, _, 0, _, rfl, rfl, SqT.of ea, rfl, _, rfl, a2, _, 0, _, rfl, rfl, SqT.of ea2, rfl, rfl, _, rfl, ?_⟩
    have r1 := rkN_lt hf1 hw60
    have r2 := rkN_lt hf2 (by omega)
    rw [pw_two (by omega)] at r1 r2
    have ok : ∀ (k : Bool) (ps : List Nest), ofK false (.knot k ps) = !k := fun k ps => by cases k <;> rfl
    unfold numN at hnum
    rw [ok, ok, ← hww] at hnum
    rw [← hww] at r2
    by_cases hk : k = k2
    · subst hk
      rw [decide_eq_true rfl]
      have hlt : rkN (.knot k ps) < rkN (.knot k qs) := by omega
      have hkey := (key_lt (words (.knot k ps))).1 (k := k) (Nat.le_refl _) hww hw60 (.inr ⟨_, rfl⟩) (.inr ⟨_, rfl⟩) hf1 hf2 hv hv2 hlt
      refine iteF ⟨_, rfl, _, _, none, rfl, hN, hv, by omega, hw60, fun p H1 np ep s1 => ?_⟩
      refine ⟨_, rfl, _, _, none, rfl, hM.mono s1, hv2, by omega, by omega, fun p2 H2 np2 ep2 s2 => ?_⟩
      exact ⟨p, p2, _, _, rfl, rfl, SqL.of (s2 _ _ ep), SqL.of ep2, hkey, q H2 (s1.trans s2)⟩
    · have e : decide (V.str (kS k) = V.str (kS k2)) = false := decide_eq_false (by intro z; have z := V.str.inj z; revert z hk; cases k <;> cases k2 <;> decide +kernel)
      rw [e]
      refine iteT ⟨_, rfl, a, _, 0, _, rfl, rfl, SqT.of ea, rfl, rfl, ?_⟩
      cases k with
      | true => exact q H (Same.refl _)
      | false =>
        cases k2 with
        | false => exact absurd rfl hk
        | true =>
          simp only [Bool.not_true, Bool.not_false, if_true, Bool.false_eq_true, if_false] at hnum
          omega
abbrev ns_law_wrong : List Str := ["nest", "cell", "ways"]
theorem sc_law_wrong : FnScope ns_law_wrong ["nest", "cell"] (defScope s_law_wrong) := ⟨rfl, rfl, rfl, by decide +kernel, rfl, by decide +kernel, by decide +kernel⟩
theorem ok_wrong (D : Def K mg "_law_wrong" s_law_wrong ["nest", "cell"]) (T : Txt mg) : Has P w K mg base CX0 1 "_law_wrong" ["nest", "cell"] (spWrong K) := by
  refine D.ok sc_law_wrong (fun vs H Q E h => ?_) (fun f cdv A outer s H vs Q E hr h => ?_)
  · obtain ⟨v, n, c, rfl, _⟩ := h; rfl
  · obtain ⟨v, n, c, rfl, hN, hv, hw60, q⟩ := h
    refine ⟨_, (@pss_cons _ _ _ _ _ (@ps_if _ _ _ _ _ _ _ _ (pt_cmpR op_isN (pv 0) pe_non (nomark _)) (@pss_one _ _ _ (@ps_ret _ _ _ _ (@pe_ix _ _ _ _ _ _ _ ix_list (@pe_lst _ _ _ _ (@pa_c _ _ _ _ _ (by exact (pe_lst pa_nil)) (@pa_c _ _ _ _ _ (by exact pe_str) (@pa_c _ _ _ _ _ (by exact pe_int) (@pa_c _ _ _ _ _ (by exact pe_bl) (@pa_c _ _ _ _ _ (by exact (pe_tup pa_nil)) (@pa_c _ _ _ _ _ (by exact (@pe_tup _ _ _ _ _ (@pa_c _ _ _ _ _ (by exact pe_str) pa_nil (by rfl)))) (@pa_c _ _ _ _ _ (by exact (@pe_tup _ _ _ _ _ (@pa_c _ _ _ _ _ (by exact pe_str) (@pa_c _ _ _ _ _ (by exact (pe_tup pa_nil)) pa_nil (by rfl)) (by rfl)))) (@pa_c _ _ _ _ _ (by exact (@pe_tup _ _ _ _ _ (@pa_c _ _ _ _ _ (by exact pe_str) (@pa_c _ _ _ _ _ (by exact (@pe_tup _ _ _ _ _ (@pa_c _ _ _ _ _ (by exact pe_non) pa_nil (by rfl)))) pa_nil (by rfl)) (by rfl)))) (@pa_c _ _ _ _ _ (by exact (@pe_tup _ _ _ _ _ (@pa_c _ _ _ _ _ (by exact pe_str) (@pa_c _ _ _ _ _ (by exact (@pe_tup _ _ _ _ _ (@pa_c _ _ _ _ _ (by exact pe_non) (@pa_c _ _ _ _ _ (by exact pe_non) pa_nil (by rfl)) (by rfl)))) pa_nil (by rfl)) (by rfl)))) pa_nil (by rfl)) (by rfl)) (by rfl)) (by rfl)) (by rfl)) (by rfl)) (by rfl)) (by rfl)) (by rfl))) (@pe_op _ _ _ _ _ _ _ _ op_mod (pv 1) pe_int) (fun _ _ => rfl)))) pss_nil)
      (@pss_cons _ _ _ _ _ (ps_set (i := 2) sc_law_wrong.nd rfl (Or.inl rfl) (@pe_op _ _ _ _ _ _ _ _ op_mod (pv 1) pe_int))
      (@pss_cons _ _ _ _ _ (@ps_if _ _ _ _ _ _ _ _ (pt_cmpR op_eq (pv 2) pe_int (nomark _)) (@pss_one _ _ _ (@ps_ret _ _ _ _ (pe_lst (pa_cons (@pe_ix _ _ _ _ _ _ _ ix_tup (pv 0) pe_int (fun _ _ => rfl)) (pa_cons (@pe_ix _ _ _ _ _ _ _ ix_tup (pv 0) pe_int (fun _ _ => rfl)) pa_nil))))) pss_nil)
      (@pss_cons _ _ _ _ _ (@ps_if _ _ _ _ _ _ _ _ (pt_cmpR op_eq (pv 2) pe_int (nomark _)) (@pss_one _ _ _ (@ps_ret _ _ _ _ (pe_tup (pa_cons (@pe_ix _ _ _ _ _ _ _ ix_tup (pv 0) pe_int (fun _ _ => rfl)) (pa_cons (pe_callTy call_list_of (by rfl) T.b.lst boot_ty_list (pa_cons (@pe_ix _ _ _ _ _ _ _ ix_tup (pv 0) pe_int (fun _ _ => rfl)) pa_nil)) pa_nil))))) pss_nil)
      (@pss_cons _ _ _ _ _ (@ps_if _ _ _ _ _ _ _ _ (pt_cmpR op_eq (pv 2) pe_int (nomark _)) (@pss_one _ _ _ (@ps_ret _ _ _ _ (pe_tup (pa_cons (@pe_ix _ _ _ _ _ _ _ ix_tup (pv 0) pe_int (fun _ _ => rfl)) (pa_cons (pe_slice sl_tup (@pe_ix _ _ _ _ _ _ _ ix_tup (pv 0) pe_int (fun _ _ => rfl)) po_none (po_some pe_int)) pa_nil))))) pss_nil)
      (@pss_cons _ _ _ _ _ (@ps_if _ _ _ _ _ _ _ _ (pt_cmpR op_eq (pv 2) pe_int (nomark _)) (@pss_one _ _ _ (@ps_ret _ _ _ _ (pe_tup (pa_cons (@pe_ix _ _ _ _ _ _ _ ix_tup (pv 0) pe_int (fun _ _ => rfl)) (pa_cons (pe_tup pa_nil) pa_nil))))) pss_nil)
      (@pss_cons _ _ _ _ _ (@ps_if _ _ _ _ _ _ _ _ (pt_cmpR op_eq (pv 2) pe_int (nomark _)) (@pss_one _ _ _ (@ps_ret _ _ _ _ (pe_tup (pa_cons (@pe_ix _ _ _ _ _ _ _ ix_list (@pe_lst _ _ _ _ (@pa_c _ _ _ _ _ (by exact pe_str) (@pa_c _ _ _ _ _ (by exact pe_str) (@pa_c _ _ _ _ _ (by exact pe_str) (@pa_c _ _ _ _ _ (by exact pe_int) (@pa_c _ _ _ _ _ (by exact pe_non) (@pa_c _ _ _ _ _ (by exact pe_bl) (@pa_c _ _ _ _ _ (by exact pe_str) pa_nil (by rfl)) (by rfl)) (by rfl)) (by rfl)) (by rfl)) (by rfl)) (by rfl))) (@pe_op _ _ _ _ _ _ _ _ op_mod (@pe_op _ _ _ _ _ _ _ _ op_fdiv (pv 1) pe_int) pe_int) (fun _ _ => rfl)) (pa_cons (@pe_ix _ _ _ _ _ _ _ ix_tup (pv 0) pe_int (fun _ _ => rfl)) pa_nil))))) pss_nil)
      (@pss_cons _ _ _ _ _ (@ps_if _ _ _ _ _ _ _ _ (pt_cmpR op_eq (pv 2) pe_int (nomark _)) (@pss_one _ _ _ (@ps_ret _ _ _ _ (pe_tup (pa_cons (@pe_ix _ _ _ _ _ _ _ ix_tup (pv 0) pe_int (fun _ _ => rfl)) (pa_cons (@pe_op _ _ _ _ _ _ _ _ op_catA (@pe_ix _ _ _ _ _ _ _ ix_tup (pv 0) pe_int (fun _ _ => rfl)) (pe_tup (pa_cons (pe_tup (pa_cons (@pe_ix _ _ _ _ _ _ _ ix_tup (pv 0) pe_int (fun _ _ => rfl)) (pa_cons (pe_tup (pa_cons pe_non (pa_cons pe_non pa_nil))) pa_nil))) pa_nil))) pa_nil))))) pss_nil)
      (@pss_cons _ _ _ _ _ (@ps_if _ _ _ _ _ _ _ _ (pt_cmpR op_eq (pv 2) pe_int (nomark _)) (@pss_one _ _ _ (@ps_ret _ _ _ _ (@pe_op _ _ _ _ _ _ _ _ op_catA (pv 0) (pe_tup (pa_cons pe_non pa_nil))))) pss_nil)
      (@pss_cons _ _ _ _ _ (@ps_if _ _ _ _ _ _ _ _ (pt_cmpR op_eq (pv 2) pe_int (nomark _)) (@pss_one _ _ _ (@ps_ret _ _ _ _ (@pe_ix _ _ _ _ _ _ _ ix_tup (pv 0) pe_int (fun _ _ => rfl)))) pss_nil)
      (@pss_cons _ _ _ _ _ (@ps_if _ _ _ _ _ _ _ _ (pt_cmpR op_eq (pv 2) pe_int (nomark _)) (@pss_one _ _ _ (@ps_ret _ _ _ _ (pe_tup (pa_cons (@pe_ix _ _ _ _ _ _ _ ix_tup (pv 0) pe_int (fun _ _ => rfl)) pa_nil)))) pss_nil)
      (@pss_one _ _ _ (@ps_ret _ _ _ _ (pe_tup (pa_cons (@pe_ix _ _ _ _ _ _ _ ix_tup (pv 0) pe_int (fun _ _ => rfl)) (pa_cons (@pe_op _ _ _ _ _ _ _ _ op_catA (pe_slice sl_tup (@pe_ix _ _ _ _ _ _ _ ix_tup (pv 0) pe_int (fun _ _ => rfl)) po_none (po_some (pe_un un_neg pe_int))) (pe_tup (pa_cons (@pe_ix _ _ _ _ _ _ _ ix_list (pe_lst (pa_cons pe_non (pa_cons pe_str pa_nil))) (@pe_op _ _ _ _ _ _ _ _ op_mod (@pe_op _ _ _ _ _ _ _ _ op_fdiv (pv 1) pe_int) pe_int) (fun _ _ => rfl)) (pa_cons pe_bl pa_nil)))) pa_nil)))))))))))))))), ?_⟩
    cases n with
    | bad => simp [valid] at hv
    | word =>
      have e : v = .non := hN
      subst e
      refine ⟨_, rfl, rfl, _, rfl, iteT ?_⟩
      refine ⟨(by show 0 ≤ sizeLine; omega), fun q1 h1 => ?_⟩
      have t1 : Same H (upd H q1 (.lst [])) := same_upd h1
      have f1 : (upd H q1 (.lst [])) q1 = some (.lst []) := upd_same
      generalize upd H q1 (.lst []) = G1 at t1 f1 ⊢
      refine ⟨(by show 0 ≤ sizeLine; omega), fun q2 h2 => ?_⟩
      have t2 : Same G1 (upd G1 q2 (.tup [])) := same_upd h2
      have f2 : (upd G1 q2 (.tup [])) q2 = some (.tup []) := upd_same
      generalize upd G1 q2 (.tup []) = G2 at t2 f2 ⊢
      refine ⟨(by show 1 ≤ sizeLine; decide), fun q3 h3 => ?_⟩
      have t3 : Same G2 (upd G2 q3 (.tup [V.str "+"])) := same_upd h3
      have f3 : (upd G2 q3 (.tup [V.str "+"])) q3 = some (.tup [V.str "+"]) := upd_same
      generalize upd G2 q3 (.tup [V.str "+"]) = G3 at t3 f3 ⊢
      refine ⟨(by show 0 ≤ sizeLine; omega), fun q4 h4 => ?_⟩
      have t4 : Same G3 (upd G3 q4 (.tup [])) := same_upd h4
      have f4 : (upd G3 q4 (.tup [])) q4 = some (.tup []) := upd_same
      generalize upd G3 q4 (.tup []) = G4 at t4 f4 ⊢
      refine ⟨(by show 2 ≤ sizeLine; decide), fun q5 h5 => ?_⟩
      have t5 : Same G4 (upd G4 q5 (.tup [V.str "+", V.ref q4])) := same_upd h5
      have f5 : (upd G4 q5 (.tup [V.str "+", V.ref q4])) q5 = some (.tup [V.str "+", V.ref q4]) := upd_same
      generalize upd G4 q5 (.tup [V.str "+", V.ref q4]) = G5 at t5 f5 ⊢
      refine ⟨(by show 1 ≤ sizeLine; decide), fun q6 h6 => ?_⟩
      have t6 : Same G5 (upd G5 q6 (.tup [V.non])) := same_upd h6
      have f6 : (upd G5 q6 (.tup [V.non])) q6 = some (.tup [V.non]) := upd_same
      generalize upd G5 q6 (.tup [V.non]) = G6 at t6 f6 ⊢
      refine ⟨(by show 2 ≤ sizeLine; decide), fun q7 h7 => ?_⟩
      have t7 : Same G6 (upd G6 q7 (.tup [V.str "+", V.ref q6])) := same_upd h7
      have f7 : (upd G6 q7 (.tup [V.str "+", V.ref q6])) q7 = some (.tup [V.str "+", V.ref q6]) := upd_same
      generalize upd G6 q7 (.tup [V.str "+", V.ref q6]) = G7 at t7 f7 ⊢
      refine ⟨(by show 2 ≤ sizeLine; decide), fun q8 h8 => ?_⟩
      have t8 : Same G7 (upd G7 q8 (.tup [V.non, V.non])) := same_upd h8
      have f8 : (upd G7 q8 (.tup [V.non, V.non])) q8 = some (.tup [V.non, V.non]) := upd_same
      generalize upd G7 q8 (.tup [V.non, V.non]) = G8 at t8 f8 ⊢
      refine ⟨(by show 2 ≤ sizeLine; decide), fun q9 h9 => ?_⟩
      have t9 : Same G8 (upd G8 q9 (.tup [V.str "*", V.ref q8])) := same_upd h9
      have f9 : (upd G8 q9 (.tup [V.str "*", V.ref q8])) q9 = some (.tup [V.str "*", V.ref q8]) := upd_same
      generalize upd G8 q9 (.tup [V.str "*", V.ref q8]) = G9 at t9 f9 ⊢
      refine ⟨(by show 9 ≤ sizeLine; decide), fun q10 h10 => ?_⟩
      have t10 : Same G9 (upd G9 q10 (.lst [V.ref q1, V.str "+", V.int 0, V.bl true, V.ref q2, V.ref q3, V.ref q5, V.ref q7, V.ref q9])) := same_upd h10
      have f10 : (upd G9 q10 (.lst [V.ref q1, V.str "+", V.int 0, V.bl true, V.ref q2, V.ref q3, V.ref q5, V.ref q7, V.ref q9])) q10 = some (.lst [V.ref q1, V.str "+", V.int 0, V.bl true, V.ref q2, V.ref q3, V.ref q5, V.ref q7, V.ref q9]) := upd_same
      generalize upd G9 q10 (.lst [V.ref q1, V.str "+", V.int 0, V.bl true, V.ref q2, V.ref q3, V.ref q5, V.ref q7, V.ref q9]) = G10 at t10 f10 ⊢
      have T9 := t10
      have T8 := t9.trans T9
      have T7 := t8.trans T8
      have T6 := t7.trans T7
      have T5 := t6.trans T6
      have T4 := t5.trans T5
      have T3 := t4.trans T4
      have T2 := t3.trans T3
      have T1 := t2.trans T2
      have u0 : 0 ≤ c % (9 : Int) := Int.emod_nonneg _ (by omega)
      have u1 : c % (9 : Int) < 9 := Int.emod_lt_of_pos _ (by omega)
      obtain ⟨bd, hbd, hat⟩ := at_lt (xs := [V.ref q1, V.str "+", V.int 0, V.bl true, V.ref q2, V.ref q3, V.ref q5, V.ref q7, V.ref q9]) (i := c % 9) u0 u1
      refine ⟨_, rfl, _, _, rfl, rfl, (by show (0 : Int) < 9; decide), q10, _, c % 9, bd, rfl, rfl, SqL.of f10, hat, ?_⟩
      have go : NestAt K G10 .bad bd := by
        simp only [List.mem_cons, List.not_mem_nil, or_false] at hbd
        rcases hbd with rfl | rfl | rfl | rfl | rfl | rfl | rfl | rfl | rfl
        · exact bad_lst K (T1 _ _ f1)
        · exact bad_str K _ _
        · exact bad_int K _ _
        · exact bad_bl K _ _
        · exact bad_len K (T2 _ _ f2) (by decide)
        · exact bad_len K (T3 _ _ f3) (by decide)
        · exact bad_few K (k := true) (T5 _ _ f5) (T4 _ _ f4) (by decide)
        · exact bad_few K (k := true) (T7 _ _ f7) (T6 _ _ f6) (by decide)
        · exact bad_kind K (T9 _ _ f9) (by decide +kernel) (by decide +kernel) (typed_tup K (T8 _ _ f8))
      exact q .bad bd G10 go non_bad (t1.trans T1)
    | knot k ps =>
      obtain ⟨a, b, us, rfl, ea, eb, hu2, hu3, hps⟩ := hN
      have hpl := hps.len
      have hvp : validL k ps = true := by simp only [valid, Bool.and_eq_true] at hv; exact hv.2
      have hpw := wordsL_pos hps
      rw [words] at hw60
      have i0 : ∀ {G : Hp}, Same H G → SqT K G a [.str (kS k), .ref b] := fun s => SqT.of (s _ _ ea)
      have S0 := Same.refl H
      refine ⟨_, rfl, rfl, _, rfl, iteF ?_⟩
      refine ⟨_, rfl, _, _, rfl, rfl, (by show (0 : Int) < 10; decide), ?_⟩
      refine gname_go ?_
      dsimp only [List.set]
      refine ⟨_, rfl, rfl, _, rfl, ite2 (fun _ => ?_) (fun _ => ?_)⟩
      · exact ⟨_, rfl, a, _, 0, _, rfl, rfl, i0 S0, rfl, _, rfl, a, _, 1, _, rfl, rfl, i0 S0, rfl, (by show 2 ≤ sizeLine; decide), fun p hp => q .bad _ _ (bad_lst K upd_same) non_bad (same_upd hp)⟩
      refine ⟨_, rfl, rfl, _, rfl, ite2 (fun _ => ?_) (fun _ => ?_)⟩
      · refine ⟨_, rfl, a, _, 0, _, rfl, rfl, i0 S0, rfl, _, rfl, a, _, 1, _, rfl, rfl, i0 S0, rfl, b, _, rfl, .inr (SqT.of eb), fun l hl => ⟨(by show 2 ≤ sizeLine; decide), fun p hp => ?_⟩⟩
        exact q .bad _ _ (bad_parts K (k := k) upd_same (same_upd hp _ _ upd_same)) non_bad ((same_upd hl).trans (same_upd hp))
      refine ⟨_, rfl, rfl, _, rfl, ite2 (fun _ => ?_) (fun _ => ?_)⟩
      · have hnot : ¬ (HT.sIx us.length 0 none = 0 ∧ HT.sIx us.length us.length (some (1 : Int)) = us.length) := fun z => by
          have := z.2
          rw [show (some (1 : Int)) = some ((1 : Nat) : Int) from rfl, HT.sIx_nat] at this
          omega
        refine ⟨_, rfl, a, _, 0, _, rfl, rfl, i0 S0, rfl, _, rfl, a, _, 1, _, rfl, rfl, i0 S0, rfl, 1, rfl, b, us, rfl, SqT.of eb, hnot, fun l hl => ⟨(by show 2 ≤ sizeLine; decide), fun p hp => ?_⟩⟩
        refine q .bad _ _ (bad_few K (k := k) upd_same (same_upd hp _ _ upd_same) ?_) non_bad ((same_upd hl).trans (same_upd hp))
        rw [show (some (1 : Int)) = some ((1 : Nat) : Int) from rfl, cutV_head us 1 (by omega), List.length_take]
        omega
      refine ⟨_, rfl, rfl, _, rfl, ite2 (fun _ => ?_) (fun _ => ?_)⟩
      · refine ⟨_, rfl, a, _, 0, _, rfl, rfl, i0 S0, rfl, (by show 0 ≤ sizeLine; omega), fun l hl => ⟨(by show 2 ≤ sizeLine; decide), fun p hp => ?_⟩⟩
        exact q .bad _ _ (bad_few K (k := k) upd_same (same_upd hp _ _ upd_same) (by decide)) non_bad ((same_upd hl).trans (same_upd hp))
      refine ⟨_, rfl, rfl, _, rfl, ite2 (fun _ => ?_) (fun _ => ?_)⟩
      · refine ⟨(by show 7 ≤ sizeLine; decide), fun l hl => ?_⟩
        have s1 := same_upd (o := .lst [V.str "*", V.str "", V.str "++", V.int 0, V.non, V.bl true, V.str "plus"]) hl
        have e1 : (upd H l (.lst [V.str "*", V.str "", V.str "++", V.int 0, V.non, V.bl true, V.str "plus"])) l = some (.lst [V.str "*", V.str "", V.str "++", V.int 0, V.non, V.bl true, V.str "plus"]) := upd_same
        generalize upd H l (.lst [V.str "*", V.str "", V.str "++", V.int 0, V.non, V.bl true, V.str "plus"]) = H1 at s1 e1 ⊢
        have u0 : 0 ≤ c / 10 % (7 : Int) := Int.emod_nonneg _ (by omega)
        have u1 : c / 10 % (7 : Int) < 7 := Int.emod_lt_of_pos _ (by omega)
        obtain ⟨bd, hbd, hat⟩ := at_lt (xs := [V.str "*", V.str "", V.str "++", V.int 0, V.non, V.bl true, V.str "plus"]) (i := c / 10 % 7) u0 u1
        refine ⟨_, rfl, _, _, rfl, rfl, ⟨by decide, by decide⟩, _, _, rfl, rfl, (by show (0 : Int) < 7; decide), l, _, c / 10 % 7, bd, rfl, rfl, SqL.of e1, hat, ?_⟩
        refine ⟨_, rfl, a, _, 1, _, rfl, rfl, i0 s1, rfl, (by show 2 ≤ sizeLine; decide), fun p hp => ?_⟩
        have s2 := same_upd (o := .tup [bd, V.ref b]) hp
        have e2 : (upd H1 p (.tup [bd, V.ref b])) p = some (.tup [bd, V.ref b]) := upd_same
        generalize upd H1 p (.tup [bd, V.ref b]) = H2 at s2 e2 ⊢
        have ty := typed_tup K ((s1.trans s2) _ _ eb)
        have go : NestAt K H2 .bad (.ref p) := by
          simp only [List.mem_cons, List.not_mem_nil, or_false] at hbd
          rcases hbd with rfl | rfl | rfl | rfl | rfl | rfl | rfl
          · exact bad_kind K e2 (by decide +kernel) (by decide +kernel) ty
          · exact bad_kind K e2 (by decide +kernel) (by decide +kernel) ty
          · exact bad_kind K e2 (by decide +kernel) (by decide +kernel) ty
          · exact bad_first K e2 (.int 0) (kit_not K (by decide +kernel) (by decide +kernel) (by decide +kernel)) ty
          · exact bad_none2 K e2 ty
          · exact bad_first K e2 (.bl true) (kit_not K (by decide +kernel) (by decide +kernel) (by decide +kernel)) ty
          · exact bad_kind K e2 (by decide +kernel) (by decide +kernel) ty
        exact q .bad _ _ go non_bad (s1.trans s2)
      refine ⟨_, rfl, rfl, _, rfl, ite2 (fun _ => ?_) (fun _ => ?_)⟩
      · refine ⟨_, rfl, a, _, 0, _, rfl, rfl, i0 S0, rfl, _, rfl, a, _, 1, _, rfl, rfl, i0 S0, rfl, _, rfl, a, _, 0, _, rfl, rfl, i0 S0, rfl, (by show 2 ≤ sizeLine; decide), fun q1 h1 => ?_⟩
        have t1 := same_upd (o := .tup [V.non, V.non]) h1
        have f1 : (upd H q1 (.tup [V.non, V.non])) q1 = some (.tup [V.non, V.non]) := upd_same
        generalize upd H q1 (.tup [V.non, V.non]) = G1 at t1 f1 ⊢
        refine ⟨(by show 2 ≤ sizeLine; decide), fun q2 h2 => ?_⟩
        have t2 := same_upd (o := .tup [V.str (kS k), V.ref q1]) h2
        have f2 : (upd G1 q2 (.tup [V.str (kS k), V.ref q1])) q2 = some (.tup [V.str (kS k), V.ref q1]) := upd_same
        generalize upd G1 q2 (.tup [V.str (kS k), V.ref q1]) = G2 at t2 f2 ⊢
        refine ⟨(by show 1 ≤ sizeLine; decide), fun q3 h3 => ?_⟩
        have t3 := same_upd (o := .tup [V.ref q2]) h3
        have f3 : (upd G2 q3 (.tup [V.ref q2])) q3 = some (.tup [V.ref q2]) := upd_same
        generalize upd G2 q3 (.tup [V.ref q2]) = G3 at t3 f3 ⊢
        have T3 := t1.trans (t2.trans t3)
        refine ⟨b, q3, us, [V.ref q2], rfl, rfl, SqT.of (T3 _ _ eb), SqT.of f3, line_mil (by simp; omega), .inr (.inr ⟨List.ne_nil_of_length_pos (by omega), by simp, fun q4 h4 => ?_⟩)⟩
        have t4 := same_upd (o := .tup (us ++ [V.ref q2])) h4
        have f4 : (upd G3 q4 (.tup (us ++ [V.ref q2]))) q4 = some (.tup (us ++ [V.ref q2])) := upd_same
        generalize upd G3 q4 (.tup (us ++ [V.ref q2])) = G4 at t4 f4 ⊢
        refine ⟨(by show 2 ≤ sizeLine; decide), fun q5 h5 => ?_⟩
        have t5 := same_upd (o := .tup [V.str (kS k), V.ref q4]) h5
        have f5 : (upd G4 q5 (.tup [V.str (kS k), V.ref q4])) q5 = some (.tup [V.str (kS k), V.ref q4]) := upd_same
        generalize upd G4 q5 (.tup [V.str (kS k), V.ref q4]) = G5 at t5 f5 ⊢
        have T5 := T3.trans (t4.trans t5)
        have hin : NestAt K G5 (.knot k [.word, .word]) (.ref q2) := ⟨q2, q1, _, rfl, (t3.trans (t4.trans t5)) _ _ f2, (t2.trans (t3.trans (t4.trans t5))) _ _ f1, by simp, by simp, ⟨_, _, rfl, rfl, _, _, rfl, rfl, rfl⟩⟩
        refine q (.knot k (ps ++ [.knot k [.word, .word]] ++ [])) (.ref q5) G5 ⟨q5, q4, _, rfl, f5, t5 _ _ f4, by simp; omega, by simp; omega, ?_⟩ (non_knot (validL_bad ps [] (by simp [valid]))) T5
        rw [List.append_nil]
        exact NestsAt.app (hps.mono T5) (NestsAt.one hin)
      refine ⟨_, rfl, rfl, _, rfl, ite2 (fun _ => ?_) (fun _ => ?_)⟩
      · refine ⟨_, rfl, (by show 1 ≤ sizeLine; decide), fun q1 h1 => ?_⟩
        have t1 := same_upd (o := .tup [V.non]) h1
        refine ⟨a, q1, _, _, rfl, rfl, i0 t1, SqT.of upd_same, (by show 3 ≤ sizeLine; decide), .inr (.inr ⟨by simp, by simp, fun q4 h4 => ?_⟩)⟩
        exact q .bad _ _ (bad_len K upd_same (by simp)) non_bad (t1.trans (same_upd h4))
      refine ⟨_, rfl, rfl, _, rfl, ite2 (fun _ => ?_) (fun _ => ?_)⟩
      · exact ⟨_, rfl, a, _, 1, _, rfl, rfl, i0 S0, rfl, q .bad _ _ (bad_nests eb hps hvp) non_bad S0⟩
      refine ⟨_, rfl, rfl, _, rfl, ite2 (fun _ => ?_) (fun _ => ?_)⟩
      · exact ⟨_, rfl, a, _, 0, _, rfl, rfl, i0 S0, rfl, (by show 1 ≤ sizeLine; decide), fun p hp => q .bad _ _ (bad_len K upd_same (by simp)) non_bad (same_upd hp)⟩
      have hnot : ¬ (HT.sIx us.length 0 none = 0 ∧ HT.sIx us.length us.length (some (-1)) = us.length) := fun z => by
        have e2 : HT.sIx us.length us.length (some (-1)) = us.length - 1 := by
          show (if (-1 : Int) < 0 then ((-1 : Int) + (us.length : Int)).toNat else min (-1 : Int).toNat us.length) = us.length - 1
          rw [if_pos (by decide)]
          omega
        rw [e2] at z
        omega
      refine ⟨_, rfl, a, _, 0, _, rfl, rfl, i0 S0, rfl, _, rfl, a, _, 1, _, rfl, rfl, i0 S0, rfl, 1, rfl, -1, rfl, b, us, rfl, SqT.of eb, hnot, fun q1 h1 => ?_⟩
      rw [cut_last us (by omega)]
      have t1 := same_upd (o := .tup (us.take (us.length - 1))) h1
      have f1 : (upd H q1 (.tup (us.take (us.length - 1)))) q1 = some (.tup (us.take (us.length - 1))) := upd_same
      generalize upd H q1 (.tup (us.take (us.length - 1))) = G1 at t1 f1 ⊢
      refine ⟨(by show 2 ≤ sizeLine; decide), fun q2 h2 => ?_⟩
      have t2 := same_upd (o := .lst [V.non, V.str "."]) h2
      have f2 : (upd G1 q2 (.lst [V.non, V.str "."])) q2 = some (.lst [V.non, V.str "."]) := upd_same
      generalize upd G1 q2 (.lst [V.non, V.str "."]) = G2 at t2 f2 ⊢
      have u0 : 0 ≤ c / 10 % (2 : Int) := Int.emod_nonneg _ (by omega)
      have u1 : c / 10 % (2 : Int) < 2 := Int.emod_lt_of_pos _ (by omega)
      obtain ⟨bd, hbd, hat⟩ := at_lt (xs := [V.non, V.str "."]) (i := c / 10 % 2) u0 u1
      refine ⟨_, rfl, _, _, rfl, rfl, ⟨by decide, by decide⟩, _, _, rfl, rfl, (by show (0 : Int) < 2; decide), q2, _, c / 10 % 2, bd, rfl, rfl, SqL.of f2, hat, (by show 2 ≤ sizeLine; decide), fun q3 h3 => ?_⟩
      have t3 := same_upd (o := .tup [bd, V.bl false]) h3
      have f3 : (upd G2 q3 (.tup [bd, V.bl false])) q3 = some (.tup [bd, V.bl false]) := upd_same
      generalize upd G2 q3 (.tup [bd, V.bl false]) = G3 at t3 f3 ⊢
      have hne : us.take (us.length - 1) ≠ [] := List.ne_nil_of_length_pos (by rw [List.length_take]; omega)
      refine ⟨q1, q3, _, _, rfl, rfl, SqT.of ((t2.trans t3) _ _ f1), SqT.of f3, line_mil (by rw [List.length_take]; simp; omega), .inr (.inr ⟨hne, by simp, fun q4 h4 => ?_⟩)⟩
      have t4 := same_upd (o := .tup (us.take (us.length - 1) ++ [bd, V.bl false])) h4
      have f4 : (upd G3 q4 (.tup (us.take (us.length - 1) ++ [bd, V.bl false]))) q4 = some (.tup (us.take (us.length - 1) ++ [bd, V.bl false])) := upd_same
      generalize upd G3 q4 (.tup (us.take (us.length - 1) ++ [bd, V.bl false])) = G4 at t4 f4 ⊢
      refine ⟨(by show 2 ≤ sizeLine; decide), fun q5 h5 => ?_⟩
      have t5 := same_upd (o := .tup [V.str (kS k), V.ref q4]) h5
      have f5 : (upd G4 q5 (.tup [V.str (kS k), V.ref q4])) q5 = some (.tup [V.str (kS k), V.ref q4]) := upd_same
      generalize upd G4 q5 (.tup [V.str (kS k), V.ref q4]) = G5 at t5 f5 ⊢
      have T5 := t1.trans (t2.trans (t3.trans (t4.trans t5)))
      obtain ⟨nb, hnb⟩ : ∃ nb, NestAt K G5 nb bd := by
        simp only [List.mem_cons, List.not_mem_nil, or_false] at hbd
        rcases hbd with rfl | rfl
        · exact ⟨.word, rfl⟩
        · exact ⟨.bad, bad_str K _ _⟩
      refine q (.knot k (ps.take (us.length - 1) ++ [nb] ++ [.bad] ++ [])) (.ref q5) G5 ⟨q5, q4, _, rfl, f5, t5 _ _ f4, by rw [List.length_append]; show 2 ≤ _ + 2; omega, by rw [List.length_append, List.length_take]; show _ + 2 ≤ 1000; omega, ?_⟩ (non_knot (validL_bad _ [] (by simp [valid]))) T5
      rw [List.append_nil, List.append_assoc]
      exact NestsAt.app ((hps.take _).mono T5) ⟨_, _, rfl, hnb, _, _, rfl, bad_bl K _ _, rfl⟩
abbrev ns_law_put_wrong : List Str := ["nest", "cells", "cell", "at", "parts"]
theorem sc_law_put_wrong : FnScope ns_law_put_wrong ["nest", "cells", "cell"] (defScope s_law_put_wrong) := ⟨rfl, rfl, rfl, by decide +kernel, rfl, by decide +kernel, by decide +kernel⟩
theorem ok_putw (D : Def K mg "_law_put_wrong" s_law_put_wrong ["nest", "cells", "cell"]) (T : Txt mg) (h_w : Has P w K mg base CX0 1 "_law_wrong" ["nest", "cell"] (spWrong K)) : ∀ d, Has P w K mg base CX0 (d + 1) "_law_put_wrong" ["nest", "cells", "cell"] (spPutW K d)
  | 0 => D.rec0 fun vs H Q E ⟨_, _, _, _, _, _, _, _, h, _⟩ => absurd h (Nat.not_lt_zero _)
  | d + 1 => by
    have h_law_put_wrong := ok_putw D T h_w d
    have h_law_wrong := h_w
    refine D.ok sc_law_put_wrong (fun vs H Q E h => ?_) (fun f cdv A outer s H vs Q E hr h => ?_)
    · obtain ⟨v, n, l, cs, c, rfl, _⟩ := h; rfl
    · obtain ⟨v, n, l, cs, c, rfl, hN, hv, hd, hw60, hl, hcl, q⟩ := h
      refine ⟨_, (pss_cons (ps_if (PW.pt (pw_or (pt_cmpR op_isN (pv 0) pe_non (nomark _)) (pw_or (pt_cmpR (op_eqL hr.units0) (pv 1) (pe_lst pa_nil) (nomark _)) (pw_or1 (pt_cmpR op_eq (pe_op op_mod (pe_ix ix_list (pv 1) pe_int (fun _ _ => rfl)) pe_int) pe_int (nomark _)))))) (pss_one (ps_ret (pe_has h_law_wrong (hr.mono (by first | decide | omega)) (by rfl) pass0 (pa_cons (pv 0) (pa_cons (pv 2) pa_nil))))) pss_nil)
      (pss_cons (ps_set (i := 3) sc_law_put_wrong.nd rfl (Or.inl rfl) (pe_op op_mod (pe_op op_fdiv (pe_ix ix_list (pv 1) pe_int (fun _ _ => rfl)) pe_int) (pe_callB call_len_seq (by rfl) T.b.len PySem.boot_len (pa_cons (pe_ix ix_tup (pv 0) pe_int (fun _ _ => rfl)) pa_nil))))
      (pss_cons (ps_set (i := 4) sc_law_put_wrong.nd rfl (Or.inl rfl) (pe_callTy call_list_of (by rfl) T.b.lst boot_ty_list (pa_cons (pe_ix ix_tup (pv 0) pe_int (fun _ _ => rfl)) pa_nil)))
      (pss_cons (ps_asg (pe_has h_law_put_wrong hr (by rfl) pass0 (pa_cons (pe_ix ix_list (pv 4) (pv 3) (fun _ _ => rfl)) (pa_cons (pe_slice sl_list (pv 1) (po_some pe_int) po_none) (pa_cons (pv 2) pa_nil)))) (pg_sub (pv 4) (pv 3) set_list))
      (pss_one (ps_ret (pe_tup (pa_cons (pe_ix ix_tup (pv 0) pe_int (fun _ _ => rfl)) (pa_cons (pe_callTy call_tuple_of (by rfl) T.b.tup boot_ty_tuple (pa_cons (pv 4) pa_nil)) pa_nil))))))))), ?_⟩
      cases n with
      | bad => simp [valid] at hv
      | word =>
        have e : v = .non := hN
        subst e
        exact ⟨_, rfl, rfl, _, rfl, iteT (iteT ⟨_, rfl, _, rfl, .non, .word, c, rfl, rfl, rfl, hw60, fun n' v' H' h1 h2 s' => q n' v' H' h1 h2 s'⟩)⟩
      | knot k ps =>
        have hN' := hN
        obtain ⟨a, b, us, rfl, ea, eb, hu2, hu3, hps⟩ := hN
        have hpl := hps.len
        have hvp : validL k ps = true := by simp only [valid, Bool.and_eq_true] at hv; exact hv.2
        simp only [depthN] at hd
        have hww := hw60
        rw [words] at hww
        refine ⟨_, rfl, rfl, _, rfl, iteF ?_⟩
        refine ⟨_, rfl, (by show 0 ≤ sizeLine; omega), fun x0 hx0 => ?_⟩
        have s0 := same_upd (o := .lst []) hx0
        have e0 : (upd H x0 (.lst [])) x0 = some (.lst []) := upd_same
        generalize upd H x0 (.lst []) = H1 at s0 e0 ⊢
        refine ⟨l, x0, _, _, rfl, rfl, s0.seq hl, SqL.of e0, ?_⟩
        cases cs with
        | nil => exact .inr ⟨true, rfl, _, rfl, iteT (iteT ⟨_, rfl, _, rfl, _, _, c, rfl, hN'.mono s0, hv, hw60, fun n' v' H' h1 h2 s' => q n' v' H' h1 h2 (s0.trans s')⟩)⟩
        | cons c0 cr =>
          refine .inl ⟨by simp, _, rfl, iteF ?_⟩
          have at0 : atI ((c0 :: cr).map V.int) 0 = some (V.int c0) := at_ints (ns := c0 :: cr) (j := 0) (z := c0) rfl
          refine ⟨_, rfl, l, _, 0, _, rfl, rfl, s0.seq hl, at0, _, _, rfl, rfl, (by show (0 : Int) < 3; decide), rfl, _, rfl, ite2 (fun _ => ?_) (fun _ => ?_)⟩
          · exact ⟨_, rfl, _, rfl, _, _, c, rfl, hN'.mono s0, hv, hw60, fun n' v' H' h1 h2 s' => q n' v' H' h1 h2 (s0.trans s')⟩
          · refine ⟨_, rfl, l, _, 0, _, rfl, rfl, s0.seq hl, at0, _, _, rfl, rfl, ⟨by decide, by decide⟩, _, rfl, a, _, 1, _, rfl, rfl, SqT.of (s0 _ _ ea), rfl, b, _, rfl, .inr (SqT.of (s0 _ _ eb)), _, _, rfl, rfl, (by omega), ?_⟩
            refine gname_go ?_
            dsimp only [List.set]
            obtain ⟨i, hi, hil⟩ : ∃ i : Nat, c0 / 3 % (us.length : Int) = (i : Int) ∧ i < us.length := by
              have h1 := Int.emod_nonneg (c0 / 3) (show (us.length : Int) ≠ 0 by omega)
              have h2 := Int.emod_lt_of_pos (c0 / 3) (show (0 : Int) < (us.length : Int) by omega)
              exact ⟨(c0 / 3 % (us.length : Int)).toNat, by omega, by omega⟩
            rw [hi]
            refine ⟨_, rfl, a, _, 1, _, rfl, rfl, SqT.of (s0 _ _ ea), rfl, b, _, rfl, .inr (SqT.of (s0 _ _ eb)), fun pl hpl2 => ?_⟩
            have s1 := same_upd (o := .lst us) hpl2
            have e1 : (upd H1 pl (.lst us)) pl = some (.lst us) := upd_same
            have nl : H1 pl = none := hpl2
            generalize upd H1 pl (.lst us) = H2 at s1 e1 ⊢
            have S1 := s0.trans s1
            obtain ⟨y, hy⟩ : ∃ y, us[i]? = some y := ⟨_, List.getElem?_eq_getElem hil⟩
            obtain ⟨nn, hnn, hnv⟩ := hps.get hy
            have hdn := depthL_get hnn
            have hwn := wordsL_at hnn
            have hvn := validL_get hvp hnn
            refine ⟨_, rfl, _, rfl, pl, _, _, _, rfl, rfl, SqL.of e1, atI_nat hy, _, rfl, 1, rfl, l, _, rfl, S1.seq hl, fun x2 hx2 => ?_⟩
            rw [show (some (1 : Int)) = some ((1 : Nat) : Int) from rfl, cutV_tail _ 1 (by simp)]
            have s2 := same_upd (o := .lst (((c0 :: cr).map V.int).drop 1)) hx2
            have e2 : (upd H2 x2 (.lst (((c0 :: cr).map V.int).drop 1))) x2 = some (.lst (cr.map V.int)) := upd_same
            generalize upd H2 x2 (.lst (((c0 :: cr).map V.int).drop 1)) = H3 at s2 e2 ⊢
            have S2 := S1.trans s2
            refine ⟨_, rfl, y, nn, x2, cr, c, rfl, hnv.mono S2, valid_any hvn, by omega, by omega, SqL.of e2, by simp at hcl; omega, fun n' v' H4 hN4 hno s4 => ?_⟩
            have e4 := s4 _ _ (s2 _ _ e1)
            refine ⟨_, rfl, _, rfl, pl, _, _, i, rfl, rfl, e4, ixN_nat (by omega) (by omega), ?_⟩
            have nl0 : H pl = none := s0.free nl
            have sU : Same H (upd H4 pl (.lst (us.set i v'))) := fun b ob e => by rw [upd_ne (ne_of_none e nl0)]; exact (S2.trans s4) b ob e
            have e5 : (upd H4 pl (.lst (us.set i v'))) pl = some (.lst (us.set i v')) := upd_same
            have hN5 := NestAt.updL (vs := us.set i v') e4 hN4
            have hps5 := NestsAt.updL (vs := us.set i v') e4 (hps.mono (S2.trans s4))
            generalize upd H4 pl (.lst (us.set i v')) = H5 at sU e5 hN5 hps5 ⊢
            refine ⟨_, rfl, a, _, 0, _, rfl, rfl, SqT.of (sU _ _ ea), rfl, _, rfl, pl, _, rfl, .inl ⟨SqL.of e5, fun tp htp => ⟨(by show 2 ≤ sizeLine; decide), fun rp hrp => ?_⟩⟩⟩
            have t1 := same_upd (o := .tup (us.set i v')) htp
            have t2 := same_upd (o := .tup [V.str (kS k), V.ref tp]) hrp
            have est : us.set i v' = us.take i ++ [v'] ++ us.drop (i + 1) := by
              rw [List.set_eq_take_append_cons_drop, if_pos hil, List.append_assoc]
              rfl
            refine q (.knot k (ps.take i ++ [n'] ++ ps.drop (i + 1))) (.ref rp) _ ⟨rp, tp, _, rfl, upd_same, t2 _ _ upd_same, by rw [List.length_set]; exact hu2, by rw [List.length_set]; exact hu3, ?_⟩ (non_part _ _ hno) (sU.trans (t1.trans t2))
            have X5 : NestsAt K H5 (ps.take i ++ [n'] ++ ps.drop (i + 1)) (us.set i v') := by
              rw [est]
              exact NestsAt.app (NestsAt.app (hps5.take i) (NestsAt.one hN5)) (hps5.drop (i + 1))
            exact NestsAt.mono t2 (NestsAt.mono t1 X5)
abbrev ns_law_caught : List Str := ["way", "many", "thing", "kinds", "e"]
theorem sc_law_caught : FnScope ns_law_caught ["way", "many", "thing"] (defScope s_law_caught) := ⟨rfl, rfl, rfl, by decide +kernel, rfl, by decide +kernel, by decide +kernel⟩
theorem ok_caught {cTurnError cNoNumber cNoNest cNoOrder cNoRow cNoText cNoTurn cNoWords cTooMany : Addr} (D : Def K mg "_law_caught" s_law_caught ["way", "many", "thing"]) (T : Txt mg) (Z : ExcL K cTurnError cNoNumber) (Z2 : ExcL K cTurnError cNoNest)
    (a1 : PySem.W.kitOne K (.ref cNoNumber) (.ref cNoNest) = some false) (a2 : PySem.W.kitAny K (.ref cNoNumber) [.ref cNoOrder, .ref cNoRow, .ref cNoText, .ref cNoTurn, .ref cNoWords, .ref cTooMany] = some false)
    (hb1 : PySem.W.kitOne K (.ref cNoNest) (.ref cNoNumber) = some false) (hb2 : PySem.W.kitAny K (.ref cNoNest) [.ref cNoOrder, .ref cNoRow, .ref cNoText, .ref cNoTurn, .ref cNoWords, .ref cTooMany] = some false)
    (h_nest_at : Has P w K mg base (CXV P w) 65 "nest_at" ["many", "number"] (spNestAt K cNoNumber)) (h_number_of : Has P w K mg base (CXV P w) 65 "number_of" ["nest"] (spNumberOf K cNoNest))
    (mTurnError : mg "TurnError" = some (.ref cTurnError)) (mNoNumber : mg "NoNumber" = some (.ref cNoNumber)) (mNoNest : mg "NoNest" = some (.ref cNoNest)) (mNoOrder : mg "NoOrder" = some (.ref cNoOrder)) (mNoRow : mg "NoRow" = some (.ref cNoRow)) (mNoText : mg "NoText" = some (.ref cNoText)) (mNoTurn : mg "NoTurn" = some (.ref cNoTurn)) (mNoWords : mg "NoWords" = some (.ref cNoWords)) (mTooMany : mg "TooMany" = some (.ref cTooMany)) : Has P w K mg base CX0 66 "_law_caught" ["way", "many", "thing"] (spCaught K) := by
  obtain ⟨f1, fd1, G1, k1, m1, b1'⟩ := h_nest_at
  obtain ⟨f2, fd2, G2, k2, m2, b2'⟩ := h_number_of
  refine D.ok sc_law_caught (fun vs H Q E h => ?_) (fun f cdv A outer s H vs Q E hr h => ?_)
  · rcases h with ⟨m, z, rfl, _⟩ | ⟨v, n, x, rfl, _⟩ <;> rfl
  · have b1 := b1'
    have b2 := b2'
    refine ⟨_, (pss_cons (ps_set (i := 3) sc_law_caught.nd rfl (Or.inl rfl) (pe_lst pa_nil))
      (pss_cons (ps_tryIf (i := 4) (pt_cmpR op_eq (pv 0) pe_int (nomark _)) G1 hr (by rfl) m1 k1 b1 G2 hr (by rfl) m2 k2 b2 rfl rfl (by rfl) mTurnError Z.ct sc_law_caught.nd rfl rfl (pa_cons (pv 1) (pa_cons (pv 2) pa_nil)) (pa_cons (pv 2) pa_nil) (fun y => (pss_cons (ps_set (i := 3) sc_law_caught.nd rfl (Or.inl rfl) (pe_lst (pa_cons (pe_callB (r := rIsX K) call_isx (by rfl) T.b.isi boot_isi (pa_cons (pv 4) (pa_cons (pe_glob (v := .ref cNoNumber) (by rfl) mNoNumber rfl) pa_nil))) (pa_cons (pe_callB (r := rIsX K) call_isx (by rfl) T.b.isi boot_isi (pa_cons (pv 4) (pa_cons (pe_glob (v := .ref cNoNest) (by rfl) mNoNest rfl) pa_nil))) (pa_cons (pe_callB (r := rIsX K) call_isx (by rfl) T.b.isi boot_isi (pa_cons (pv 4) (pa_cons (pe_bltn (v := .ty "ValueError") (by rfl) T.ve boot_ve rfl) pa_nil))) pa_nil)))))
      (pss_one (ps_expr (pe_bm PySem.F.plainAttrs_list PySem.F.slot_list_append PySem.F.type_list_append mt_append (pv 3) (pa_cons (pe_callB (r := rIsX K) call_isx (by rfl) T.b.isi boot_isi (pa_cons (pv 4) (pa_cons (@pe_tup _ _ _ _ _ (@pa_c _ _ _ _ _ (by exact (pe_glob (v := .ref cNoOrder) (by rfl) mNoOrder rfl)) (@pa_c _ _ _ _ _ (by exact (pe_glob (v := .ref cNoRow) (by rfl) mNoRow rfl)) (@pa_c _ _ _ _ _ (by exact (pe_glob (v := .ref cNoText) (by rfl) mNoText rfl)) (@pa_c _ _ _ _ _ (by exact (pe_glob (v := .ref cNoTurn) (by rfl) mNoTurn rfl)) (@pa_c _ _ _ _ _ (by exact (pe_glob (v := .ref cNoWords) (by rfl) mNoWords rfl)) (@pa_c _ _ _ _ _ (by exact (pe_glob (v := .ref cTooMany) (by rfl) mTooMany rfl)) pa_nil (by rfl)) (by rfl)) (by rfl)) (by rfl)) (by rfl)) (by rfl))) pa_nil))) pa_nil)))))))
      (pss_one (ps_ret (pv 3))))), ?_⟩
    refine ⟨(by show 0 ≤ sizeLine; omega), fun kp hkp => ?_⟩
    have s1 : Same H (upd H kp (.lst [])) := same_upd hkp
    generalize upd H kp (.lst []) = H1 at s1 ⊢
    rcases h with ⟨m, z, rfl, hm1, hm2, hz, q⟩ | ⟨v, n, x0, rfl, hN, hbad, q⟩
    · refine ⟨_, rfl, rfl, _, rfl, iteT ⟨_, rfl, _, rfl, m, z, rfl, hm1, hm2, fun h => absurd h hz, fun _ H2 s2 => ⟨cNoNumber, rfl, Z.tx, Z.mr, ?_⟩⟩⟩
      intro x hxn
      have s3 : Same H (upd H2 x (exO x cNoNumber)) := (s1.trans s2).trans (same_upd hxn)
      have eX : (upd H2 x (exO x cNoNumber)) x = some (exO x cNoNumber) := upd_same
      generalize upd H2 x (exO x cNoNumber) = H3 at s3 eX ⊢
      refine ⟨_, rfl, x, cNoNumber, _, true, rfl, eX, Z.tx, .inr (.inl ⟨cNoNumber, rfl, kit_refl _ _⟩), ?_⟩
      refine ⟨_, rfl, x, cNoNumber, _, false, rfl, eX, Z.tx, .inr (.inl ⟨cNoNest, rfl, a1⟩), ?_⟩
      refine ⟨_, rfl, x, cNoNumber, _, true, rfl, eX, Z.tx, .inl ⟨"ValueError", rfl, Z.ve⟩, ?_⟩
      refine ⟨(by show 3 ≤ sizeLine; decide), fun k3 hk3 => ?_⟩
      have e3 : (upd H3 k3 (.lst [V.bl true, V.bl false, V.bl true])) k3 = some (.lst [V.bl true, V.bl false, V.bl true]) := upd_same
      have s4 := same_upd (o := .lst [V.bl true, V.bl false, V.bl true]) hk3
      have nk : H k3 = none := s3.free hk3
      generalize upd H3 k3 (.lst [V.bl true, V.bl false, V.bl true]) = H4 at e3 s4 ⊢
      have S4 := s3.trans s4
      refine ⟨_, rfl, .inl ⟨rfl, _, SqL.of e3⟩, _, rfl, (by show 6 ≤ sizeLine; decide), fun tp htp => ?_⟩
      have s5 := same_upd (o := .tup [V.ref cNoOrder, V.ref cNoRow, V.ref cNoText, V.ref cNoTurn, V.ref cNoWords, V.ref cTooMany]) htp
      have e5 : (upd H4 tp (.tup [V.ref cNoOrder, V.ref cNoRow, V.ref cNoText, V.ref cNoTurn, V.ref cNoWords, V.ref cTooMany])) tp = some (.tup ([cNoOrder, cNoRow, cNoText, cNoTurn, cNoWords, cTooMany].map V.ref)) := upd_same
      generalize upd H4 tp (.tup [V.ref cNoOrder, V.ref cNoRow, V.ref cNoText, V.ref cNoTurn, V.ref cNoWords, V.ref cTooMany]) = H5 at s5 e5 ⊢
      refine ⟨x, cNoNumber, _, false, rfl, (s4.trans s5) _ _ eX, Z.tx, .inr (.inr ⟨tp, [cNoOrder, cNoRow, cNoText, cNoTurn, cNoWords, cTooMany], rfl, e5, a2⟩), ?_⟩
      refine ⟨k3, _, _, rfl, rfl, s5 _ _ e3, small1000 (by decide), _, rfl, q k3 _ nk upd_same fun b ob e => ?_⟩
      rw [upd_ne (ne_of_none e nk)]
      exact (S4.trans s5) b ob e
    · refine ⟨_, rfl, rfl, _, rfl, iteF ⟨_, rfl, v, n, rfl, hN.mono s1, (fun h => by rw [hbad] at h; cases h), fun _ H2 s2 => ⟨cNoNest, rfl, Z2.tx, Z2.mr, ?_⟩⟩⟩
      intro x hxn
      have s3 : Same H (upd H2 x (exO x cNoNest)) := (s1.trans s2).trans (same_upd hxn)
      have eX : (upd H2 x (exO x cNoNest)) x = some (exO x cNoNest) := upd_same
      generalize upd H2 x (exO x cNoNest) = H3 at s3 eX ⊢
      refine ⟨_, rfl, x, cNoNest, _, false, rfl, eX, Z2.tx, .inr (.inl ⟨cNoNumber, rfl, ‹PySem.W.kitOne K (.ref cNoNest) (.ref cNoNumber) = some false›⟩), ?_⟩
      refine ⟨_, rfl, x, cNoNest, _, true, rfl, eX, Z2.tx, .inr (.inl ⟨cNoNest, rfl, kit_refl _ _⟩), ?_⟩
      refine ⟨_, rfl, x, cNoNest, _, true, rfl, eX, Z2.tx, .inl ⟨"ValueError", rfl, Z2.ve⟩, ?_⟩
      refine ⟨(by show 3 ≤ sizeLine; decide), fun k3 hk3 => ?_⟩
      have e3 : (upd H3 k3 (.lst [V.bl false, V.bl true, V.bl true])) k3 = some (.lst [V.bl false, V.bl true, V.bl true]) := upd_same
      have s4 := same_upd (o := .lst [V.bl false, V.bl true, V.bl true]) hk3
      have nk : H k3 = none := s3.free hk3
      generalize upd H3 k3 (.lst [V.bl false, V.bl true, V.bl true]) = H4 at e3 s4 ⊢
      have S4 := s3.trans s4
      refine ⟨_, rfl, .inl ⟨rfl, _, SqL.of e3⟩, _, rfl, (by show 6 ≤ sizeLine; decide), fun tp htp => ?_⟩
      have s5 := same_upd (o := .tup [V.ref cNoOrder, V.ref cNoRow, V.ref cNoText, V.ref cNoTurn, V.ref cNoWords, V.ref cTooMany]) htp
      have e5 : (upd H4 tp (.tup [V.ref cNoOrder, V.ref cNoRow, V.ref cNoText, V.ref cNoTurn, V.ref cNoWords, V.ref cTooMany])) tp = some (.tup ([cNoOrder, cNoRow, cNoText, cNoTurn, cNoWords, cTooMany].map V.ref)) := upd_same
      generalize upd H4 tp (.tup [V.ref cNoOrder, V.ref cNoRow, V.ref cNoText, V.ref cNoTurn, V.ref cNoWords, V.ref cTooMany]) = H5 at s5 e5 ⊢
      refine ⟨x, cNoNest, _, false, rfl, (s4.trans s5) _ _ eX, Z2.tx, .inr (.inr ⟨tp, [cNoOrder, cNoRow, cNoText, cNoTurn, cNoWords, cTooMany], rfl, e5, ‹PySem.W.kitAny K (.ref cNoNest) [.ref cNoOrder, .ref cNoRow, .ref cNoText, .ref cNoTurn, .ref cNoWords, .ref cTooMany] = some false›⟩), ?_⟩
      refine ⟨k3, _, _, rfl, rfl, s5 _ _ e3, small1000 (by decide), _, rfl, q k3 _ nk upd_same fun b ob e => ?_⟩
      rw [upd_ne (ne_of_none e nk)]
      exact (S4.trans s5) b ob e
def spLaw (K : PySem.W.Frag) : Sp := spLawB K
abbrev ns_law : List Str := ["script", "many", "whole", "cell", "number", "far", "none", "nest", "wrong"]
theorem sc_law : FnScope ns_law ["script"] (defScope s_law) := ⟨rfl, rfl, rfl, by decide +kernel, rfl, by decide +kernel, by decide +kernel⟩
theorem ok_law {f cNoNumber : Addr} {fd : FuncData} (F : Fun K "law" "law" s_law f fd) (T : Txt mg) (h_law_cell_at : Has P w K mg base CX0 1 "_law_cell_at" ["script", "k"] (spCellAt K)) (h_how_many : Has P w K mg base CX0 5 "how_many" ["many"] (spHowMany fun m => wtab.getD m 0)) (h_nest_at : Has P w K mg base (CXV P w) 65 "nest_at" ["many", "number"] (spNestAt K cNoNumber)) (h_law_ahead : Has P w K mg base CX0 64 "_law_ahead" ["one", "other"] (spAhead K))
    (h_law_caught : Has P w K mg base CX0 66 "_law_caught" ["way", "many", "thing"] (spCaught K)) (h_law_nest : Has P w K mg base CX0 2 "_law_nest" ["cells"] (spLNest K)) (h_law_put_wrong : Has P w K mg base CX0 62 "_law_put_wrong" ["nest", "cells", "cell"] (spPutW K 61)) : FnOk P w K mg base CX0 67 f fd ["script"] (spLaw K) := by
  refine F.ok sc_law (fun vs H Q E h => ?_) (fun cdv A outer s H vs Q E hr h => ?_)
  · obtain ⟨a, ns, rfl, _⟩ := h; rfl
  · obtain ⟨a, ns, rfl, hS, hl, hb, q⟩ := h
    refine ⟨_, (pss_cons (ps_set (i := 1) sc_law.nd rfl (Or.inl rfl) (pe_op op_add pe_int (pe_op op_mod (pe_has h_law_cell_at (hr.mono (by first | decide | omega)) (by rfl) pass0 (pa_cons (pv 0) (pa_cons pe_int pa_nil))) pe_int)))
      (pss_cons (ps_set (i := 2) sc_law.nd rfl (Or.inl rfl) (pe_has h_how_many (hr.mono (by first | decide | omega)) (by rfl) pass0 (pa_cons (pv 1) pa_nil)))
      (pss_cons (ps_for PassesOwn.never rfl (pi_list (pe_op op_cat (pe_slice sl_list (pv 0) (po_some pe_int) (po_some pe_int)) (pe_lst (pa_cons pe_int pa_nil)))) (pg_name (i := 3) sc_law.nd rfl (Or.inl rfl)) (pss_cons (ps_set (i := 4) sc_law.nd rfl (Or.inl rfl) (pe_op op_mod (pe_op op_mulW (pv 3) (pe_op op_pow pe_int pe_int)) (pv 2)))
      (pss_cons (ps_if (PW.pt (pw_and (pt_cmpR op_lt (pe_op op_add (pv 4) pe_int) (pv 2) (nomark _)) (pw_and1 (pt_not (pt_val (pe_has h_law_ahead (hr.mono (by first | decide | omega)) (by rfl) pass0 (pa_cons (pe_has h_nest_at (hr.mono (by first | decide | omega)) (by rfl) pass0V (pa_cons (pv 1) (pa_cons (pv 4) pa_nil))) (pa_cons (pe_has h_nest_at (hr.mono (by first | decide | omega)) (by rfl) pass0V (pa_cons (pv 1) (pa_cons (pe_op op_add (pv 4) pe_int) pa_nil))) pa_nil)))))))) (pss_one (ps_ret pe_bl)) pss_nil)
      (pss_cons (ps_set (i := 5) sc_law.nd rfl (Or.inl rfl) (pe_op op_mod (pv 3) (pe_op op_pow pe_int pe_int)))
      (pss_one (ps_for PassesOwn.never rfl (pi_list (pe_lst (pa_cons (pe_op op_sub (pe_un un_neg pe_int) (pv 5)) (pa_cons (pe_op op_add (pv 2) (pv 5)) pa_nil)))) (pg_name (i := 6) sc_law.nd rfl (Or.inl rfl)) (pss_one (ps_if (pt_cmpR (op_neL hr.units0) (pe_has h_law_caught hr (by rfl) pass0 (pa_cons pe_int (pa_cons (pv 1) (pa_cons (pv 6) pa_nil)))) (pe_lst (pa_cons pe_bl (pa_cons pe_bl (pa_cons pe_bl (pa_cons pe_bl pa_nil))))) (nomark _)) (pss_one (ps_ret pe_bl)) pss_nil))))))))
      (pss_cons (ps_set (i := 7) sc_law.nd rfl (Or.inl rfl) (pe_has h_law_nest (hr.mono (by first | decide | omega)) (by rfl) pass0 (pa_cons (pe_slice sl_list (pv 0) (po_some pe_int) (po_some pe_int)) pa_nil)))
      (pss_cons (ps_set (i := 8) sc_law.nd rfl (Or.inl rfl) (pe_has h_law_put_wrong (hr.mono (by first | decide | omega)) (by rfl) pass0 (pa_cons (pv 7) (pa_cons (pe_slice sl_list (pv 0) (po_some pe_int) (po_some pe_int)) (pa_cons (pe_op op_fdiv (pe_has h_law_cell_at (hr.mono (by first | decide | omega)) (by rfl) pass0 (pa_cons (pv 0) (pa_cons pe_int pa_nil))) pe_int) pa_nil)))))
      (pss_one (ps_ret (pe_cmpR (op_eqL hr.units0) (pe_has h_law_caught hr (by rfl) pass0 (pa_cons pe_int (pa_cons pe_int (pa_cons (pv 8) pa_nil)))) (pe_lst (pa_cons pe_bl (pa_cons pe_bl (pa_cons pe_bl (pa_cons pe_bl pa_nil))))) (nomark _))))))))), ?_⟩
    refine ⟨_, rfl, a, ns, 0, rfl, hS, fun y => ⟨_, _, rfl, rfl, (by show (0 : Int) < 60; decide), _, _, rfl, rfl, ?_⟩⟩
    obtain ⟨m, hm, m1, m2⟩ : ∃ m : Nat, 1 + y % 60 = (m : Int) ∧ 1 ≤ m ∧ m ≤ 60 := by
      have h1 := Int.emod_nonneg y (show (60 : Int) ≠ 0 by decide)
      have h2 := Int.emod_lt_of_pos y (show (0 : Int) < 60 by decide)
      exact ⟨(1 + y % 60).toNat, by omega, by omega, by omega⟩
    show gName 1 (V.int (1 + y % 60)) _ _ _
    rw [hm]
    refine ⟨_, rfl, m, rfl, m1, m2, fun H1 s1 => ?_⟩
    refine gname_go ?_
    dsimp only [List.set]
    rw [show wtab.getD m 0 = Rw m from (tab_both m1 m2).1.symm]
    have hrp := rw_pos m1 m2
    have hS1 := s1.seq hS
    refine ⟨_, rfl, 1, rfl, 6, rfl, a, _, rfl, hS1, fun x1 hx1 => ?_⟩
    obtain ⟨cs, hcs, hcb, hcl⟩ : ∃ cs : List Int, cutV (ns.map V.int) (some 1) (some 6) = cs.map V.int ∧ (∀ z ∈ cs, Builtin.Int.intBits z ≤ 1048576) ∧ cs.length ≤ 5 := by
      unfold cutV
      rw [← List.map_drop, ← List.map_take]
      refine ⟨_, rfl, fun z hz => hb z (List.mem_of_mem_drop (List.mem_of_mem_take hz)), ?_⟩
      rw [List.length_take, List.length_drop, List.length_map, show (some (1 : Int)) = some ((1 : Nat) : Int) from rfl, HT.sIx_nat, show (some (6 : Int)) = some ((6 : Nat) : Int) from rfl, HT.sIx_nat]
      omega
    rw [hcs]
    have s2 := same_upd (o := .lst (cs.map V.int)) hx1
    have e2 : (upd H1 x1 (.lst (cs.map V.int))) x1 = some (.lst (cs.map V.int)) := upd_same
    generalize upd H1 x1 (.lst (cs.map V.int)) = H2 at s2 e2 ⊢
    refine ⟨(by show 1 ≤ sizeLine; decide), fun x2 hx2 => ?_⟩
    have s3 := same_upd (o := .lst [V.int 0]) hx2
    have e3 : (upd H2 x2 (.lst [V.int 0])) x2 = some (.lst [V.int 0]) := upd_same
    generalize upd H2 x2 (.lst [V.int 0]) = H3 at s3 e3 ⊢
    refine ⟨x1, x2, _, _, rfl, rfl, s3 _ _ e2, e3, line_mil (by rw [List.length_map]; show _ + 1 ≤ _; omega), fun x3 hx3 => ?_⟩
    have s4 := same_upd (o := .lst (cs.map V.int ++ [V.int 0])) hx3
    have e4 : (upd H3 x3 (.lst (cs.map V.int ++ [V.int 0]))) x3 = some (.lst ((cs ++ [0]).map V.int)) := by rw [upd_same, List.map_append]; rfl
    generalize upd H3 x3 (.lst (cs.map V.int ++ [V.int 0])) = H4 at s4 e4 ⊢
    have S4 := s1.trans (s2.trans (s3.trans s4))
    have hcb2 : ∀ z ∈ cs ++ [0], Builtin.Int.intBits z ≤ 1048576 := fun z hz => by
      rcases List.mem_append.mp hz with hz | hz
      · exact hcb z hz
      · rw [List.mem_singleton.mp hz]; decide
    refine ⟨x3, rfl, ⟨_, SqL.of e4⟩, for_list (K := K) (a := x3) (xs := (cs ++ [0]).map V.int) (fun i σ Hx => ∃ v3 v4 v5 v6 : Option V, σ = [some (.ref a), some (.int (m : Int)), some (.int (Rw m)), v3, v4, v5, v6, none, none] ∧ Same H4 Hx) ⟨none, none, none, none, rfl, Same.refl _⟩ (fun i σ Hx _ ⟨_, _, _, _, _, sx⟩ => SqL.of (sx _ _ e4)) ?_ ?_⟩
    · rintro i yv σ Hx hi ⟨v3, v4, v5, v6, rfl, sx⟩
      obtain ⟨c, hc, rfl⟩ := ints_get hi
      have hcbit := hcb2 c (List.mem_of_getElem? hc)
      have hmul : IntMulOk c (48271 ^ (32 : Int).toNat) := IntMulOk.of_le (m := 1048576) (n := 600) hcbit (bits_le (by decide +kernel)) (by decide)
      refine ⟨_, rfl, _, _, rfl, rfl, ⟨by decide, by decide, by decide +kernel⟩, _, _, rfl, rfl, hmul, _, rfl, _, _, rfl, rfl, by omega, ?_⟩
      refine gname_go ?_
      dsimp only [List.set]
      generalize c * 48271 ^ (32 : Int).toNat = zz
      have hz0 := Int.emod_nonneg zz (show Rw m ≠ 0 by omega)
      have hz1 := Int.emod_lt_of_pos zz (show 0 < Rw m by omega)
      generalize zz % Rw m = num at hz0 hz1 ⊢
      refine seq_if (fun σ' Hy => σ' = [some (.ref a), some (.int (m : Int)), some (.int (Rw m)), some (.int c), some (.int num), v5, v6, none, none] ∧ Same H4 Hy) ?_ fun hrest => ?_
      · rintro σ' Hy ⟨rfl, sy⟩
        refine ⟨_, rfl, _, _, rfl, rfl, ⟨by decide, by decide, by decide +kernel⟩, _, _, rfl, rfl, (by show (0 : Int) < 10 ^ (60 : Int).toNat; decide +kernel), ?_⟩
        refine gname_go ?_
        dsimp only [List.set]
        have hf0 : 0 ≤ c % 10 ^ (60 : Int).toNat := Int.emod_nonneg _ (by decide +kernel)
        generalize c % 10 ^ (60 : Int).toNat = far at hf0 ⊢
        refine ⟨1, rfl, _, rfl, _, _, rfl, rfl, _, rfl, _, rfl, _, _, rfl, rfl, (by show 2 ≤ sizeLine; decide), fun x5 hx5 => ?_⟩
        have s5 := same_upd (o := .lst [V.int (-1 - far), V.int (Rw m + far)]) hx5
        have e5 : (upd Hy x5 (.lst [V.int (-1 - far), V.int (Rw m + far)])) x5 = some (.lst ([-1 - far, Rw m + far].map V.int)) := upd_same
        refine ⟨x5, rfl, ⟨_, SqL.of e5⟩, ?_⟩
        show ∃ W : Nat → Nat → L2.St → Hp → Prop, _
        generalize upd Hy x5 (.lst [V.int (-1 - far), V.int (Rw m + far)]) = H5 at s5 e5
        refine for_list (K := K) (a := x5) (xs := [-1 - far, Rw m + far].map V.int) (fun j σ Hz => ∃ v6 : Option V, σ = [some (.ref a), some (.int (m : Int)), some (.int (Rw m)), some (.int c), some (.int num), some (.int far), v6, none, none] ∧ Same H5 Hz) ⟨v6, rfl, Same.refl _⟩ (fun j σ Hz _ ⟨_, _, sz⟩ => SqL.of (sz _ _ e5)) ?_ ?_
        · rintro j yz σ Hz hj ⟨v6', rfl, sz⟩
          obtain ⟨z, hz, rfl⟩ := ints_get hj
          have hno : ¬ (0 ≤ z ∧ z < Rw m) := by
            have := List.mem_of_getElem? hz
            simp only [List.mem_cons, List.not_mem_nil, or_false] at this
            rcases this with rfl | rfl <;> omega
          refine ⟨_, rfl, _, rfl, .inl ⟨m, z, rfl, m1, m2, hno, fun p H6 np ep s6 => ?_⟩⟩
          refine ⟨(by show 4 ≤ sizeLine; decide), fun x7 hx7 => ?_⟩
          exact ⟨p, x7, _, _, rfl, rfl, SqL.of (same_upd hx7 _ _ ep), SqL.of upd_same, .inr ⟨true, rfl, _, rfl, iteF ⟨_, rfl, sz.trans (s6.trans (same_upd hx7))⟩⟩⟩
        · rintro σ Hz ⟨v6', rfl, sz⟩
          exact ⟨_, _, _, _, rfl, sy.trans (s5.trans sz)⟩
      · refine ⟨_, rfl, _, _, rfl, rfl, _, rfl, _, _, rfl, rfl, _, rfl, ?_⟩
        by_cases hlt : num + 1 < Rw m
        · rw [decide_eq_true hlt]
          refine iteT ⟨_, rfl, _, rfl, m, num, rfl, m1, m2, fun _ n v H5 hN hv hf hw hn s5 => ?_, fun h => absurd ⟨hz0, hz1⟩ h⟩
          refine ⟨_, rfl, _, rfl, _, _, rfl, rfl, m, num + 1, rfl, m1, m2, fun _ n2 v2 H6 hN2 hv2 hf2 hw2 hn2 s6 => ?_, fun h => absurd ⟨by omega, hlt⟩ h⟩
          have hm2 : 2 ≤ m := by
            rcases Nat.lt_or_ge m 2 with z | z
            · have e : m = 1 := by omega
              subst e
              have : Rw 1 = 1 := rfl
              omega
            · exact z
          refine ⟨v, v2, n, n2, rfl, hN.mono s6, hN2, hv, hv2, by omega, by omega, by omega, by rw [hn, hn2]; omega, fun H7 s7 => ⟨_, rfl, iteF (hrest _ _ ⟨rfl, sx.trans (s5.trans (s6.trans s7))⟩)⟩⟩
        · rw [decide_eq_false hlt]
          exact iteF (iteF (hrest _ _ ⟨rfl, sx⟩))
    · rintro σ Hx ⟨v3, v4, v5, v6, rfl, sx⟩
      have SX := S4.trans sx
      have hSX := SX.seq hS
      obtain ⟨ds, hds, hdl⟩ : ∃ ds : List Int, cutV (ns.map V.int) (some 1) (some 41) = ds.map V.int ∧ ds.length ≤ 40 := by
        unfold cutV
        rw [← List.map_drop, ← List.map_take]
        refine ⟨_, rfl, ?_⟩
        rw [List.length_take, List.length_drop, List.length_map, show (some (1 : Int)) = some ((1 : Nat) : Int) from rfl, HT.sIx_nat, show (some (41 : Int)) = some ((41 : Nat) : Int) from rfl, HT.sIx_nat]
        omega
      refine ⟨_, rfl, 1, rfl, 41, rfl, a, _, rfl, hSX, fun y1 hy1 => ?_⟩
      rw [hds]
      have t1 := same_upd (o := .lst (ds.map V.int)) hy1
      have f1 : (upd Hx y1 (.lst (ds.map V.int))) y1 = some (.lst (ds.map V.int)) := upd_same
      generalize upd Hx y1 (.lst (ds.map V.int)) = G1 at t1 f1 ⊢
      refine ⟨y1, ds, rfl, SqL.of f1, by omega, fun n v G2 hN hv hw t2 => ?_⟩
      have hdw := depth_words hN
      have T2 := t1.trans t2
      refine ⟨_, rfl, _, rfl, 1, rfl, 41, rfl, a, _, rfl, T2.seq hSX, fun y3 hy3 => ?_⟩
      rw [hds]
      have t3 := same_upd (o := .lst (ds.map V.int)) hy3
      have f3 : (upd G2 y3 (.lst (ds.map V.int))) y3 = some (.lst (ds.map V.int)) := upd_same
      generalize upd G2 y3 (.lst (ds.map V.int)) = G3 at t3 f3 ⊢
      refine ⟨_, rfl, a, ns, 0, rfl, (T2.trans t3).seq hSX, fun y4 => ⟨_, _, rfl, rfl, ⟨by decide, by decide⟩, ?_⟩⟩
      refine ⟨v, n, y3, ds, _, rfl, hN.mono t3, hv, by omega, by omega, SqL.of f3, by omega, fun n' v' G4 hN4 hno t4 => ?_⟩
      have hbad : okN n' = false := by unfold okN; rw [hno none]; rfl
      refine ⟨_, rfl, .inr ⟨v', n', 0, rfl, hN4, hbad, fun p G5 np ep t5 => ?_⟩⟩
      refine ⟨(by show 4 ≤ sizeLine; decide), fun x7 hx7 => ?_⟩
      exact ⟨p, x7, _, _, rfl, rfl, SqL.of (same_upd hx7 _ _ ep), SqL.of upd_same, .inr ⟨true, rfl, q _⟩⟩
end
theorem all_mk {l : PySem.W.OpenLaw} {w : World} {K : PySem.W.Frag} {h : Heap} {mg : Str → Option Value} {fa f0 f1 f2 f3 f4 f5 f6 f7 f8 f9 f10 f11 f12 f13 f14 f15 f16 f17 f18 f19 f20 f21 f22 f23 f24 : Addr} (X : K.In h) (G : h.Ns mainGlobals mg) (hfa : mg "law" = some (.ref fa))
    {od0 an0 : Option Addr} {sl0 : Array (Option Value)} {oc0 kV0 dc0 pm0 cd0 ct0 : Value}
    (a0 : PySem.W.nsIn K mainGlobals "is_nest" = some (some (.ref f0))) (l0 : K.lookup f0 = some ⟨oc0, od0, .func (PySem.W.fnOf "is_nest" "is_nest" (defArgs s_is_nest) (defBody s_is_nest) (defScope s_is_nest) .none kV0 dc0 pm0 an0 cd0 ct0), sl0⟩)
    (c0 : PySem.W.codeIn K cd0 "is_nest" = true) (k0 : PySem.W.keepIn K (.ref f0) = true)
    {od1 an1 : Option Addr} {sl1 : Array (Option Value)} {oc1 kV1 dc1 pm1 cd1 ct1 : Value}
    (a1 : PySem.W.nsIn K mainGlobals "is_knot" = some (some (.ref f1))) (l1 : K.lookup f1 = some ⟨oc1, od1, .func (PySem.W.fnOf "is_knot" "is_knot" (defArgs s_is_knot) (defBody s_is_knot) (defScope s_is_knot) .none kV1 dc1 pm1 an1 cd1 ct1), sl1⟩)
    (c1 : PySem.W.codeIn K cd1 "is_knot" = true) (k1 : PySem.W.keepIn K (.ref f1) = true)
    {od2 an2 : Option Addr} {sl2 : Array (Option Value)} {oc2 kV2 dc2 pm2 cd2 ct2 : Value}
    (a2 : PySem.W.nsIn K mainGlobals "must_be_nest" = some (some (.ref f2))) (l2 : K.lookup f2 = some ⟨oc2, od2, .func (PySem.W.fnOf "must_be_nest" "must_be_nest" (defArgs s_must_be_nest) (defBody s_must_be_nest) (defScope s_must_be_nest) .none kV2 dc2 pm2 an2 cd2 ct2), sl2⟩)
    (c2 : PySem.W.codeIn K cd2 "must_be_nest" = true) (k2 : PySem.W.keepIn K (.ref f2) = true)
    {od3 an3 : Option Addr} {sl3 : Array (Option Value)} {oc3 kV3 dc3 pm3 cd3 ct3 : Value}
    (a3 : PySem.W.nsIn K mainGlobals "is_of_kind" = some (some (.ref f3))) (l3 : K.lookup f3 = some ⟨oc3, od3, .func (PySem.W.fnOf "is_of_kind" "is_of_kind" (defArgs s_is_of_kind) (defBody s_is_of_kind) (defScope s_is_of_kind) .none kV3 dc3 pm3 an3 cd3 ct3), sl3⟩)
    (c3 : PySem.W.codeIn K cd3 "is_of_kind" = true) (k3 : PySem.W.keepIn K (.ref f3) = true)
    {od4 an4 : Option Addr} {sl4 : Array (Option Value)} {oc4 kV4 dc4 pm4 cd4 ct4 : Value}
    (a4 : PySem.W.nsIn K mainGlobals "count_words" = some (some (.ref f4))) (l4 : K.lookup f4 = some ⟨oc4, od4, .func (PySem.W.fnOf "count_words" "count_words" (defArgs s_count_words) (defBody s_count_words) (defScope s_count_words) .none kV4 dc4 pm4 an4 cd4 ct4), sl4⟩)
    (c4 : PySem.W.codeIn K cd4 "count_words" = true) (k4 : PySem.W.keepIn K (.ref f4) = true)
    {od5 an5 : Option Addr} {sl5 : Array (Option Value)} {oc5 kV5 dc5 pm5 cd5 ct5 : Value}
    (a5 : PySem.W.nsIn K mainGlobals "how_many" = some (some (.ref f5))) (l5 : K.lookup f5 = some ⟨oc5, od5, .func (PySem.W.fnOf "how_many" "how_many" (defArgs s_how_many) (defBody s_how_many) (defScope s_how_many) .none kV5 dc5 pm5 an5 cd5 ct5), sl5⟩)
    (c5 : PySem.W.codeIn K cd5 "how_many" = true) (k5 : PySem.W.keepIn K (.ref f5) = true)
    {od6 an6 : Option Addr} {sl6 : Array (Option Value)} {oc6 kV6 dc6 pm6 cd6 ct6 : Value}
    (a6 : PySem.W.nsIn K mainGlobals "kind_counts" = some (some (.ref f6))) (l6 : K.lookup f6 = some ⟨oc6, od6, .func (PySem.W.fnOf "kind_counts" "kind_counts" (defArgs s_kind_counts) (defBody s_kind_counts) (defScope s_kind_counts) .none kV6 dc6 pm6 an6 cd6 ct6), sl6⟩)
    (c6 : PySem.W.codeIn K cd6 "kind_counts" = true) (k6 : PySem.W.keepIn K (.ref f6) = true)
    {od7 an7 : Option Addr} {sl7 : Array (Option Value)} {oc7 kV7 dc7 pm7 cd7 ct7 : Value}
    (a7 : PySem.W.nsIn K mainGlobals "count_parts" = some (some (.ref f7))) (l7 : K.lookup f7 = some ⟨oc7, od7, .func (PySem.W.fnOf "count_parts" "count_parts" (defArgs s_count_parts) (defBody s_count_parts) (defScope s_count_parts) .none kV7 dc7 pm7 an7 cd7 ct7), sl7⟩)
    (c7 : PySem.W.codeIn K cd7 "count_parts" = true) (k7 : PySem.W.keepIn K (.ref f7) = true)
    {od8 an8 : Option Addr} {sl8 : Array (Option Value)} {oc8 kV8 dc8 pm8 cd8 ct8 : Value}
    (a8 : PySem.W.nsIn K mainGlobals "count_rows" = some (some (.ref f8))) (l8 : K.lookup f8 = some ⟨oc8, od8, .func (PySem.W.fnOf "count_rows" "count_rows" (defArgs s_count_rows) (defBody s_count_rows) (defScope s_count_rows) .none kV8 dc8 pm8 an8 cd8 ct8), sl8⟩)
    (c8 : PySem.W.codeIn K cd8 "count_rows" = true) (k8 : PySem.W.keepIn K (.ref f8) = true)
    {od9 an9 : Option Addr} {sl9 : Array (Option Value)} {oc9 kV9 dc9 pm9 cd9 ct9 : Value}
    (a9 : PySem.W.nsIn K mainGlobals "count_with_first" = some (some (.ref f9))) (l9 : K.lookup f9 = some ⟨oc9, od9, .func (PySem.W.fnOf "count_with_first" "count_with_first" (defArgs s_count_with_first) (defBody s_count_with_first) (defScope s_count_with_first) .none kV9 dc9 pm9 an9 cd9 ct9), sl9⟩)
    (c9 : PySem.W.codeIn K cd9 "count_with_first" = true) (k9 : PySem.W.keepIn K (.ref f9) = true)
    {od10 an10 : Option Addr} {sl10 : Array (Option Value)} {oc10 kV10 dc10 pm10 cd10 ct10 : Value}
    (a10 : PySem.W.nsIn K mainGlobals "number_of" = some (some (.ref f10))) (l10 : K.lookup f10 = some ⟨oc10, od10, .func (PySem.W.fnOf "number_of" "number_of" (defArgs s_number_of) (defBody s_number_of) (defScope s_number_of) .none kV10 dc10 pm10 an10 cd10 ct10), sl10⟩)
    (c10 : PySem.W.codeIn K cd10 "number_of" = true) (k10 : PySem.W.keepIn K (.ref f10) = true)
    {od11 an11 : Option Addr} {sl11 : Array (Option Value)} {oc11 kV11 dc11 pm11 cd11 ct11 : Value}
    (a11 : PySem.W.nsIn K mainGlobals "number_in_kind" = some (some (.ref f11))) (l11 : K.lookup f11 = some ⟨oc11, od11, .func (PySem.W.fnOf "number_in_kind" "number_in_kind" (defArgs s_number_in_kind) (defBody s_number_in_kind) (defScope s_number_in_kind) .none kV11 dc11 pm11 an11 cd11 ct11), sl11⟩)
    (c11 : PySem.W.codeIn K cd11 "number_in_kind" = true) (k11 : PySem.W.keepIn K (.ref f11) = true)
    {od12 an12 : Option Addr} {sl12 : Array (Option Value)} {oc12 kV12 dc12 pm12 cd12 ct12 : Value}
    (a12 : PySem.W.nsIn K mainGlobals "nest_at" = some (some (.ref f12))) (l12 : K.lookup f12 = some ⟨oc12, od12, .func (PySem.W.fnOf "nest_at" "nest_at" (defArgs s_nest_at) (defBody s_nest_at) (defScope s_nest_at) .none kV12 dc12 pm12 an12 cd12 ct12), sl12⟩)
    (c12 : PySem.W.codeIn K cd12 "nest_at" = true) (k12 : PySem.W.keepIn K (.ref f12) = true)
    {od13 an13 : Option Addr} {sl13 : Array (Option Value)} {oc13 kV13 dc13 pm13 cd13 ct13 : Value}
    (a13 : PySem.W.nsIn K mainGlobals "part_at" = some (some (.ref f13))) (l13 : K.lookup f13 = some ⟨oc13, od13, .func (PySem.W.fnOf "part_at" "part_at" (defArgs s_part_at) (defBody s_part_at) (defScope s_part_at) .none kV13 dc13 pm13 an13 cd13 ct13), sl13⟩)
    (c13 : PySem.W.codeIn K cd13 "part_at" = true) (k13 : PySem.W.keepIn K (.ref f13) = true)
    {od14 an14 : Option Addr} {sl14 : Array (Option Value)} {oc14 kV14 dc14 pm14 cd14 ct14 : Value}
    (a14 : PySem.W.nsIn K mainGlobals "_law_cell_at" = some (some (.ref f14))) (l14 : K.lookup f14 = some ⟨oc14, od14, .func (PySem.W.fnOf "_law_cell_at" "_law_cell_at" (defArgs s_law_cell_at) (defBody s_law_cell_at) (defScope s_law_cell_at) .none kV14 dc14 pm14 an14 cd14 ct14), sl14⟩)
    (c14 : PySem.W.codeIn K cd14 "_law_cell_at" = true) (k14 : PySem.W.keepIn K (.ref f14) = true)
    {od15 an15 : Option Addr} {sl15 : Array (Option Value)} {oc15 kV15 dc15 pm15 cd15 ct15 : Value}
    (a15 : PySem.W.nsIn K mainGlobals "_law_join" = some (some (.ref f15))) (l15 : K.lookup f15 = some ⟨oc15, od15, .func (PySem.W.fnOf "_law_join" "_law_join" (defArgs s_law_join) (defBody s_law_join) (defScope s_law_join) .none kV15 dc15 pm15 an15 cd15 ct15), sl15⟩)
    (c15 : PySem.W.codeIn K cd15 "_law_join" = true) (k15 : PySem.W.keepIn K (.ref f15) = true)
    {od16 an16 : Option Addr} {sl16 : Array (Option Value)} {oc16 kV16 dc16 pm16 cd16 ct16 : Value}
    (a16 : PySem.W.nsIn K mainGlobals "_law_nest" = some (some (.ref f16))) (l16 : K.lookup f16 = some ⟨oc16, od16, .func (PySem.W.fnOf "_law_nest" "_law_nest" (defArgs s_law_nest) (defBody s_law_nest) (defScope s_law_nest) .none kV16 dc16 pm16 an16 cd16 ct16), sl16⟩)
    (c16 : PySem.W.codeIn K cd16 "_law_nest" = true) (k16 : PySem.W.keepIn K (.ref f16) = true)
    {od17 an17 : Option Addr} {sl17 : Array (Option Value)} {oc17 kV17 dc17 pm17 cd17 ct17 : Value}
    (a17 : PySem.W.nsIn K mainGlobals "_law_row" = some (some (.ref f17))) (l17 : K.lookup f17 = some ⟨oc17, od17, .func (PySem.W.fnOf "_law_row" "_law_row" (defArgs s_law_row) (defBody s_law_row) (defScope s_law_row) .none kV17 dc17 pm17 an17 cd17 ct17), sl17⟩)
    (c17 : PySem.W.codeIn K cd17 "_law_row" = true) (k17 : PySem.W.keepIn K (.ref f17) = true)
    {od18 an18 : Option Addr} {sl18 : Array (Option Value)} {oc18 kV18 dc18 pm18 cd18 ct18 : Value}
    (a18 : PySem.W.nsIn K mainGlobals "_law_size" = some (some (.ref f18))) (l18 : K.lookup f18 = some ⟨oc18, od18, .func (PySem.W.fnOf "_law_size" "_law_size" (defArgs s_law_size) (defBody s_law_size) (defScope s_law_size) .none kV18 dc18 pm18 an18 cd18 ct18), sl18⟩)
    (c18 : PySem.W.codeIn K cd18 "_law_size" = true) (k18 : PySem.W.keepIn K (.ref f18) = true)
    {od19 an19 : Option Addr} {sl19 : Array (Option Value)} {oc19 kV19 dc19 pm19 cd19 ct19 : Value}
    (a19 : PySem.W.nsIn K mainGlobals "_law_key" = some (some (.ref f19))) (l19 : K.lookup f19 = some ⟨oc19, od19, .func (PySem.W.fnOf "_law_key" "_law_key" (defArgs s_law_key) (defBody s_law_key) (defScope s_law_key) .none kV19 dc19 pm19 an19 cd19 ct19), sl19⟩)
    (c19 : PySem.W.codeIn K cd19 "_law_key" = true) (k19 : PySem.W.keepIn K (.ref f19) = true)
    {od20 an20 : Option Addr} {sl20 : Array (Option Value)} {oc20 kV20 dc20 pm20 cd20 ct20 : Value}
    (a20 : PySem.W.nsIn K mainGlobals "_law_ahead" = some (some (.ref f20))) (l20 : K.lookup f20 = some ⟨oc20, od20, .func (PySem.W.fnOf "_law_ahead" "_law_ahead" (defArgs s_law_ahead) (defBody s_law_ahead) (defScope s_law_ahead) .none kV20 dc20 pm20 an20 cd20 ct20), sl20⟩)
    (c20 : PySem.W.codeIn K cd20 "_law_ahead" = true) (k20 : PySem.W.keepIn K (.ref f20) = true)
    {od21 an21 : Option Addr} {sl21 : Array (Option Value)} {oc21 kV21 dc21 pm21 cd21 ct21 : Value}
    (a21 : PySem.W.nsIn K mainGlobals "_law_caught" = some (some (.ref f21))) (l21 : K.lookup f21 = some ⟨oc21, od21, .func (PySem.W.fnOf "_law_caught" "_law_caught" (defArgs s_law_caught) (defBody s_law_caught) (defScope s_law_caught) .none kV21 dc21 pm21 an21 cd21 ct21), sl21⟩)
    (c21 : PySem.W.codeIn K cd21 "_law_caught" = true) (k21 : PySem.W.keepIn K (.ref f21) = true)
    {od22 an22 : Option Addr} {sl22 : Array (Option Value)} {oc22 kV22 dc22 pm22 cd22 ct22 : Value}
    (a22 : PySem.W.nsIn K mainGlobals "_law_wrong" = some (some (.ref f22))) (l22 : K.lookup f22 = some ⟨oc22, od22, .func (PySem.W.fnOf "_law_wrong" "_law_wrong" (defArgs s_law_wrong) (defBody s_law_wrong) (defScope s_law_wrong) .none kV22 dc22 pm22 an22 cd22 ct22), sl22⟩)
    (c22 : PySem.W.codeIn K cd22 "_law_wrong" = true) (k22 : PySem.W.keepIn K (.ref f22) = true)
    {od23 an23 : Option Addr} {sl23 : Array (Option Value)} {oc23 kV23 dc23 pm23 cd23 ct23 : Value}
    (a23 : PySem.W.nsIn K mainGlobals "_law_put_wrong" = some (some (.ref f23))) (l23 : K.lookup f23 = some ⟨oc23, od23, .func (PySem.W.fnOf "_law_put_wrong" "_law_put_wrong" (defArgs s_law_put_wrong) (defBody s_law_put_wrong) (defScope s_law_put_wrong) .none kV23 dc23 pm23 an23 cd23 ct23), sl23⟩)
    (c23 : PySem.W.codeIn K cd23 "_law_put_wrong" = true) (k23 : PySem.W.keepIn K (.ref f23) = true)
    {od24 an24 : Option Addr} {sl24 : Array (Option Value)} {oc24 kV24 dc24 pm24 cd24 ct24 : Value}
    (a24 : PySem.W.nsIn K mainGlobals "law" = some (some (.ref f24))) (l24 : K.lookup f24 = some ⟨oc24, od24, .func (PySem.W.fnOf "law" "law" (defArgs s_law) (defBody s_law) (defScope s_law) .none kV24 dc24 pm24 an24 cd24 ct24), sl24⟩)
    (c24 : PySem.W.codeIn K cd24 "law" = true) (k24 : PySem.W.keepIn K (.ref f24) = true)
    (z0 : PySem.W.nsIn K mainGlobals "len" = some none)
    (z1 : PySem.W.nsIn K mainGlobals "range" = some none)
    (z2 : PySem.W.nsIn K mainGlobals "list" = some none)
    (z3 : PySem.W.nsIn K mainGlobals "tuple" = some none)
    (z4 : PySem.W.nsIn K mainGlobals "isinstance" = some none)
    (z5 : PySem.W.nsIn K mainGlobals "int" = some none)
    (z6 : PySem.W.nsIn K mainGlobals "bool" = some none)
    (z7 : PySem.W.nsIn K mainGlobals "str" = some none)
    (z8 : PySem.W.nsIn K mainGlobals "sum" = some none)
    (z9 : PySem.W.nsIn K mainGlobals "ValueError" = some none)
    (z10 : PySem.W.nsIn K mainGlobals "enumerate" = some none)
    {cTurnError cNoNumber cNoNest cNoOrder cNoRow cNoText cNoTurn cNoWords cTooMany : Addr}
    (gTurnError : PySem.W.nsIn K mainGlobals "TurnError" = some (some (.ref cTurnError)))
    (gNoNumber : PySem.W.nsIn K mainGlobals "NoNumber" = some (some (.ref cNoNumber)))
    (gNoNest : PySem.W.nsIn K mainGlobals "NoNest" = some (some (.ref cNoNest)))
    (gNoOrder : PySem.W.nsIn K mainGlobals "NoOrder" = some (some (.ref cNoOrder)))
    (gNoRow : PySem.W.nsIn K mainGlobals "NoRow" = some (some (.ref cNoRow)))
    (gNoText : PySem.W.nsIn K mainGlobals "NoText" = some (some (.ref cNoText)))
    (gNoTurn : PySem.W.nsIn K mainGlobals "NoTurn" = some (some (.ref cNoTurn)))
    (gNoWords : PySem.W.nsIn K mainGlobals "NoWords" = some (some (.ref cNoWords)))
    (gTooMany : PySem.W.nsIn K mainGlobals "TooMany" = some (some (.ref cTooMany)))
    (x1 : PySem.W.excIn K cNoNumber bmVE "ValueError.__new__" = true)
    {cdA cdB : ClassData}
    (x2 : PySem.W.clsIn K cNoNumber = some cdA)
    (x3 : PySem.W.findIn K (.ref cNoNumber) "__getattribute__" = some (some (.builtin "BaseException.__getattribute__")))
    (x4 : PySem.W.findIn K (.ref cNoNumber) "__getattr__" = some none)
    (x5 : PySem.W.findIn K (.ref cNoNumber) "__class__" = some (some (.builtin "object.__class__")))
    (x6 : PySem.W.specialIn K (.builtin "object.__class__") "__get__" = some (some (.builtin "getset_descriptor.__get__")))
    (x7 : PySem.W.takesIn K (.builtin "object.__class__") = some true)
    (x8 : PySem.W.mroIn K cNoNumber (.type "object") = some true)
    (x9 : PySem.W.mroIn K cNoNumber (.type "BaseException") = some true)
    (t1 : PySem.W.clsIn K cTurnError = some cdB)
    (t2 : PySem.W.typeIn K (.ref cTurnError) = some (.type "type"))
    (t3 : PySem.W.mroIn K cTurnError (.type "BaseException") = some true)
    (t4 : PySem.W.mroIn K cNoNumber (.ref cTurnError) = some true)
    (t5 : PySem.W.kitOne K (.ref cNoNumber) (.type "ValueError") = some true)
    (w0 : PySem.W.kitAny K (.ref cNoNumber) [.ref cNoOrder, .ref cNoRow, .ref cNoText, .ref cNoTurn, .ref cNoWords, .ref cTooMany] = some false)
    (v0 : PySem.W.kitOne K (.ref cNoNumber) (.ref cNoNest) = some false)
    (bx1 : PySem.W.excIn K cNoNest bmVE "ValueError.__new__" = true)
    {cdC cdD : ClassData}
    (bx2 : PySem.W.clsIn K cNoNest = some cdC)
    (bx3 : PySem.W.findIn K (.ref cNoNest) "__getattribute__" = some (some (.builtin "BaseException.__getattribute__")))
    (bx4 : PySem.W.findIn K (.ref cNoNest) "__getattr__" = some none)
    (bx5 : PySem.W.findIn K (.ref cNoNest) "__class__" = some (some (.builtin "object.__class__")))
    (bx6 : PySem.W.specialIn K (.builtin "object.__class__") "__get__" = some (some (.builtin "getset_descriptor.__get__")))
    (bx7 : PySem.W.takesIn K (.builtin "object.__class__") = some true)
    (bx8 : PySem.W.mroIn K cNoNest (.type "object") = some true)
    (bx9 : PySem.W.mroIn K cNoNest (.type "BaseException") = some true)
    (bt1 : PySem.W.clsIn K cTurnError = some cdD)
    (bt2 : PySem.W.typeIn K (.ref cTurnError) = some (.type "type"))
    (bt3 : PySem.W.mroIn K cTurnError (.type "BaseException") = some true)
    (bt4 : PySem.W.mroIn K cNoNest (.ref cTurnError) = some true)
    (bt5 : PySem.W.kitOne K (.ref cNoNest) (.type "ValueError") = some true)
    (bw0 : PySem.W.kitAny K (.ref cNoNest) [.ref cNoOrder, .ref cNoRow, .ref cNoText, .ref cNoTurn, .ref cNoWords, .ref cTooMany] = some false)
    (bv0 : PySem.W.kitOne K (.ref cNoNest) (.ref cNoNumber) = some false)
    {mw : Tok}
    (gM : PySem.W.nsIn K mainGlobals "MOST_WORDS" = some (some (.int 60 mw)))
    : ∃ fd : FuncData, (∀ (s : Shared) (v : Value), BindsTo s fd ⟨[v], []⟩ [("script", v)]) ∧ ∀ base : Heap, K.In base → base.Ns mainGlobals mg → FnOk l.prog w K mg base CX0 67 fa fd ["script"] (spLaw K) := by
  have e := hfa.symm.trans (PySem.W.mg_of X G a24)
  cases e
  have F0 := fun_mk (st := s_is_nest) l0 c0 k0
  have b0 := F0.binds (ps := ["thing"]) fun _ _ _ _ _ _ us hl => match us, hl with | [_], _ => rfl
  have m0 := PySem.W.mg_of X G a0
  have F1 := fun_mk (st := s_is_knot) l1 c1 k1
  have b1 := F1.binds (ps := ["thing"]) fun _ _ _ _ _ _ us hl => match us, hl with | [_], _ => rfl
  have m1 := PySem.W.mg_of X G a1
  have F2 := fun_mk (st := s_must_be_nest) l2 c2 k2
  have b2 := F2.binds (ps := ["thing"]) fun _ _ _ _ _ _ us hl => match us, hl with | [_], _ => rfl
  have m2 := PySem.W.mg_of X G a2
  have F3 := fun_mk (st := s_is_of_kind) l3 c3 k3
  have b3 := F3.binds (ps := ["nest", "kind"]) fun _ _ _ _ _ _ us hl => match us, hl with | [_, _], _ => rfl
  have m3 := PySem.W.mg_of X G a3
  have F4 := fun_mk (st := s_count_words) l4 c4 k4
  have b4 := F4.binds (ps := ["nest"]) fun _ _ _ _ _ _ us hl => match us, hl with | [_], _ => rfl
  have m4 := PySem.W.mg_of X G a4
  have F5 := fun_mk (st := s_how_many) l5 c5 k5
  have b5 := F5.binds (ps := ["many"]) fun _ _ _ _ _ _ us hl => match us, hl with | [_], _ => rfl
  have m5 := PySem.W.mg_of X G a5
  have F6 := fun_mk (st := s_kind_counts) l6 c6 k6
  have b6 := F6.binds (ps := ["many"]) fun _ _ _ _ _ _ us hl => match us, hl with | [_], _ => rfl
  have m6 := PySem.W.mg_of X G a6
  have F7 := fun_mk (st := s_count_parts) l7 c7 k7
  have b7 := F7.binds (ps := ["counts", "words"]) fun _ _ _ _ _ _ us hl => match us, hl with | [_, _], _ => rfl
  have m7 := PySem.W.mg_of X G a7
  have F8 := fun_mk (st := s_count_rows) l8 c8 k8
  have b8 := F8.binds (ps := ["counts", "words"]) fun _ _ _ _ _ _ us hl => match us, hl with | [_, _], _ => rfl
  have m8 := PySem.W.mg_of X G a8
  have F9 := fun_mk (st := s_count_with_first) l9 c9 k9
  have b9 := F9.binds (ps := ["counts", "words", "first"]) fun _ _ _ _ _ _ us hl => match us, hl with | [_, _, _], _ => rfl
  have m9 := PySem.W.mg_of X G a9
  have F10 := fun_mk (st := s_number_of) l10 c10 k10
  have b10 := F10.binds (ps := ["nest"]) fun _ _ _ _ _ _ us hl => match us, hl with | [_], _ => rfl
  have m10 := PySem.W.mg_of X G a10
  have F11 := fun_mk (st := s_number_in_kind) l11 c11 k11
  have b11 := F11.binds (ps := ["counts", "nest"]) fun _ _ _ _ _ _ us hl => match us, hl with | [_, _], _ => rfl
  have m11 := PySem.W.mg_of X G a11
  have F12 := fun_mk (st := s_nest_at) l12 c12 k12
  have b12 := F12.binds (ps := ["many", "number"]) fun _ _ _ _ _ _ us hl => match us, hl with | [_, _], _ => rfl
  have m12 := PySem.W.mg_of X G a12
  have F13 := fun_mk (st := s_part_at) l13 c13 k13
  have b13 := F13.binds (ps := ["counts", "kind", "words", "number"]) fun _ _ _ _ _ _ us hl => match us, hl with | [_, _, _, _], _ => rfl
  have m13 := PySem.W.mg_of X G a13
  have F14 := fun_mk (st := s_law_cell_at) l14 c14 k14
  have b14 := F14.binds (ps := ["script", "k"]) fun _ _ _ _ _ _ us hl => match us, hl with | [_, _], _ => rfl
  have m14 := PySem.W.mg_of X G a14
  have F15 := fun_mk (st := s_law_join) l15 c15 k15
  have b15 := F15.binds (ps := ["kind", "one", "other"]) fun _ _ _ _ _ _ us hl => match us, hl with | [_, _, _], _ => rfl
  have m15 := PySem.W.mg_of X G a15
  have F16 := fun_mk (st := s_law_nest) l16 c16 k16
  have b16 := F16.binds (ps := ["cells"]) fun _ _ _ _ _ _ us hl => match us, hl with | [_], _ => rfl
  have m16 := PySem.W.mg_of X G a16
  have F17 := fun_mk (st := s_law_row) l17 c17 k17
  have b17 := F17.binds (ps := ["nest", "first"]) fun _ _ _ _ _ _ us hl => match us, hl with | [_, _], _ => rfl
  have m17 := PySem.W.mg_of X G a17
  have F18 := fun_mk (st := s_law_size) l18 c18 k18
  have b18 := F18.binds (ps := ["nest"]) fun _ _ _ _ _ _ us hl => match us, hl with | [_], _ => rfl
  have m18 := PySem.W.mg_of X G a18
  have F19 := fun_mk (st := s_law_key) l19 c19 k19
  have b19 := F19.binds (ps := ["nest"]) fun _ _ _ _ _ _ us hl => match us, hl with | [_], _ => rfl
  have m19 := PySem.W.mg_of X G a19
  have F20 := fun_mk (st := s_law_ahead) l20 c20 k20
  have b20 := F20.binds (ps := ["one", "other"]) fun _ _ _ _ _ _ us hl => match us, hl with | [_, _], _ => rfl
  have m20 := PySem.W.mg_of X G a20
  have F21 := fun_mk (st := s_law_caught) l21 c21 k21
  have b21 := F21.binds (ps := ["way", "many", "thing"]) fun _ _ _ _ _ _ us hl => match us, hl with | [_, _, _], _ => rfl
  have m21 := PySem.W.mg_of X G a21
  have F22 := fun_mk (st := s_law_wrong) l22 c22 k22
  have b22 := F22.binds (ps := ["nest", "cell"]) fun _ _ _ _ _ _ us hl => match us, hl with | [_, _], _ => rfl
  have m22 := PySem.W.mg_of X G a22
  have F23 := fun_mk (st := s_law_put_wrong) l23 c23 k23
  have b23 := F23.binds (ps := ["nest", "cells", "cell"]) fun _ _ _ _ _ _ us hl => match us, hl with | [_, _, _], _ => rfl
  have m23 := PySem.W.mg_of X G a23
  have F24 := fun_mk (st := s_law) l24 c24 k24
  have y0 := PySem.W.mg_none_of X G z0
  have y1 := PySem.W.mg_none_of X G z1
  have y2 := PySem.W.mg_none_of X G z2
  have y3 := PySem.W.mg_none_of X G z3
  have y4 := PySem.W.mg_none_of X G z4
  have y5 := PySem.W.mg_none_of X G z5
  have y6 := PySem.W.mg_none_of X G z6
  have y7 := PySem.W.mg_none_of X G z7
  have y8 := PySem.W.mg_none_of X G z8
  have y9 := PySem.W.mg_none_of X G z9
  have y10 := PySem.W.mg_none_of X G z10
  have Z : ExcL K cTurnError cNoNumber := ⟨x1, ⟨by rw [x2]; rfl, x3, x4, x5, x6, x7, x8, x9⟩, ⟨by rw [t1]; rfl, t2, t3⟩, t4, t5⟩
  have mTurnError := PySem.W.mg_of X G gTurnError
  have mNoNumber := PySem.W.mg_of X G gNoNumber
  have mNoNest := PySem.W.mg_of X G gNoNest
  have mNoOrder := PySem.W.mg_of X G gNoOrder
  have mNoRow := PySem.W.mg_of X G gNoRow
  have mNoText := PySem.W.mg_of X G gNoText
  have mNoTurn := PySem.W.mg_of X G gNoTurn
  have mNoWords := PySem.W.mg_of X G gNoWords
  have mTooMany := PySem.W.mg_of X G gTooMany
  have Z2 : ExcL K cTurnError cNoNest := ⟨bx1, ⟨by rw [bx2]; rfl, bx3, bx4, bx5, bx6, bx7, bx8, bx9⟩, ⟨by rw [bt1]; rfl, bt2, bt3⟩, bt4, bt5⟩
  have mM := PySem.W.mg_of X G gM
  have D_is_nest : Def K mg "is_nest" s_is_nest ["thing"] := ⟨f0, _, F0, k0, m0, b0⟩
  have D_is_knot : Def K mg "is_knot" s_is_knot ["thing"] := ⟨f1, _, F1, k1, m1, b1⟩
  have D_must_be_nest : Def K mg "must_be_nest" s_must_be_nest ["thing"] := ⟨f2, _, F2, k2, m2, b2⟩
  have D_is_of_kind : Def K mg "is_of_kind" s_is_of_kind ["nest", "kind"] := ⟨f3, _, F3, k3, m3, b3⟩
  have D_count_words : Def K mg "count_words" s_count_words ["nest"] := ⟨f4, _, F4, k4, m4, b4⟩
  have D_how_many : Def K mg "how_many" s_how_many ["many"] := ⟨f5, _, F5, k5, m5, b5⟩
  have D_kind_counts : Def K mg "kind_counts" s_kind_counts ["many"] := ⟨f6, _, F6, k6, m6, b6⟩
  have D_count_parts : Def K mg "count_parts" s_count_parts ["counts", "words"] := ⟨f7, _, F7, k7, m7, b7⟩
  have D_count_rows : Def K mg "count_rows" s_count_rows ["counts", "words"] := ⟨f8, _, F8, k8, m8, b8⟩
  have D_count_with_first : Def K mg "count_with_first" s_count_with_first ["counts", "words", "first"] := ⟨f9, _, F9, k9, m9, b9⟩
  have D_number_of : Def K mg "number_of" s_number_of ["nest"] := ⟨f10, _, F10, k10, m10, b10⟩
  have D_number_in_kind : Def K mg "number_in_kind" s_number_in_kind ["counts", "nest"] := ⟨f11, _, F11, k11, m11, b11⟩
  have D_nest_at : Def K mg "nest_at" s_nest_at ["many", "number"] := ⟨f12, _, F12, k12, m12, b12⟩
  have D_part_at : Def K mg "part_at" s_part_at ["counts", "kind", "words", "number"] := ⟨f13, _, F13, k13, m13, b13⟩
  have D_law_cell_at : Def K mg "_law_cell_at" s_law_cell_at ["script", "k"] := ⟨f14, _, F14, k14, m14, b14⟩
  have D_law_join : Def K mg "_law_join" s_law_join ["kind", "one", "other"] := ⟨f15, _, F15, k15, m15, b15⟩
  have D_law_nest : Def K mg "_law_nest" s_law_nest ["cells"] := ⟨f16, _, F16, k16, m16, b16⟩
  have D_law_row : Def K mg "_law_row" s_law_row ["nest", "first"] := ⟨f17, _, F17, k17, m17, b17⟩
  have D_law_size : Def K mg "_law_size" s_law_size ["nest"] := ⟨f18, _, F18, k18, m18, b18⟩
  have D_law_key : Def K mg "_law_key" s_law_key ["nest"] := ⟨f19, _, F19, k19, m19, b19⟩
  have D_law_ahead : Def K mg "_law_ahead" s_law_ahead ["one", "other"] := ⟨f20, _, F20, k20, m20, b20⟩
  have D_law_caught : Def K mg "_law_caught" s_law_caught ["way", "many", "thing"] := ⟨f21, _, F21, k21, m21, b21⟩
  have D_law_wrong : Def K mg "_law_wrong" s_law_wrong ["nest", "cell"] := ⟨f22, _, F22, k22, m22, b22⟩
  have D_law_put_wrong : Def K mg "_law_put_wrong" s_law_put_wrong ["nest", "cells", "cell"] := ⟨f23, _, F23, k23, m23, b23⟩
  have T : Txt mg := ⟨⟨y0, y1, y2, y3, y4, y5, y6⟩, y7, y8, y9, y10⟩
  have fin : ∀ base : Heap, FnOk l.prog w K mg base CX0 67 fa _ ["script"] (spLaw K) := fun base =>
    have GM := has_must D_is_nest D_is_knot D_must_be_nest T mM mNoNest bx1
    have GP := ok_parts D_count_parts
    have GR := ok_rows D_count_rows GP
    have GF := ok_withfirst D_count_with_first GP GR
    have GK := ok_kinds D_kind_counts T GF
    have GN := ok_numberof D_number_of T GM (has_countw D_count_words T 60) GK (ok_numkind D_number_in_kind T (has_countw D_count_words T) GP GR GF 61) (ok_ofkind D_is_of_kind)
    have GA := ok_nestat D_nest_at T GK GR (ok_partat D_part_at T GP GR GF 60) mNoNumber x1
    have GS := ok_lsize D_law_size T (ok_row D_law_row T)
    ok_law F24 T (ok_cellat D_law_cell_at T) (ok_howmany D_how_many GR GK) GA (ok_ahead D_law_ahead T (ok_key D_law_key T GS 62)) (ok_caught D_law_caught T Z Z2 v0 w0 bv0 bw0 GA GN mTurnError mNoNumber mNoNest mNoOrder mNoRow mNoText mNoTurn mNoWords mTooMany) (ok_lnest D_law_nest T (ok_join D_law_join T)) (ok_putw D_law_put_wrong T (ok_wrong D_law_wrong T) 61)
  exact ⟨PySem.W.fnOf "law" "law" (defArgs s_law) (defBody s_law) (defScope s_law) .none kV24 dc24 pm24 an24 cd24 ct24, fun s v => .of_eq rfl, fun base _ _ => fin base⟩
theorem walk {l : PySem.W.OpenLaw} {q : Program} {loose : List Str} {XP : (Str → Option Value) → Heap → Prop} {YP : World → Heap → Prop} {d : DefRec} {K : Params → PySem.W.Frag} (hn : l.most = some 63) (hdf : d.params.defaults = [])
    (hY : ∀ (w : World) (h : Heap), YP w h → (K w.params).In h)
    (F : ∀ (w : World) (mg : Str → Option Value) (fa : Addr) (h : Heap), (K w.params).In h → h.Ns mainGlobals mg → mg d.name = some (.ref fa) → ∃ fd : FuncData, (∀ (s : Shared) (u : Value), BindsTo s fd ⟨[u], []⟩ [("script", u)]) ∧ ∀ base : Heap, (K w.params).In base → base.Ns mainGlobals mg → FnOk l.prog w (K w.params) mg base CX0 67 fa fd ["script"] (spLaw (K w.params))) :
    PySem.W.WalkO q loose XP YP l.row.toRowW d [] (fun f vs => PySem.call f vs) :=
  L2.walk_ofB (n := 63) (k := 67) (x := "script") (CX := fun _ => CX0) (sp := fun w => spLaw (K w.params)) hn (by decide) hdf ⟨rfl, by decide, by decide⟩ hY F (fun _ _ a ns hl hb _ hS => ⟨a, ns, rfl, hS, hl, hb, fun _ => rfl⟩) fun _ _ _ _ _ z => z
end K44
open PySem PySem.W PyProof.Rows
set_option maxRecDepth 100000 in
set_option maxHeartbeats 0 in
theorem PySem.Challenge.cw_turnnest_k44_neighbours_and_refusals_holds : PySem.Challenge.rw_turnnest_k44_neighbours_and_refusals.Holds := by
  w_on; o_law; k_head; (case hw => w_witness2)
  k_fill
  refine K44.walk (l := PySem.Challenge.rw_turnnest_k44_neighbours_and_refusals) rfl rfl (fun w h Y => PySem.W.kIn_of Y) ?F
  case F =>
    intro w mg fa h KX G hmg
    refine' K44.all_mk KX G hmg ?a0 ?l0 ?c0 ?k0 ?a1 ?l1 ?c1 ?k1 ?a2 ?l2 ?c2 ?k2 ?a3 ?l3 ?c3 ?k3 ?a4 ?l4 ?c4 ?k4 ?a5 ?l5 ?c5 ?k5 ?a6 ?l6 ?c6 ?k6 ?a7 ?l7 ?c7 ?k7 ?a8 ?l8 ?c8 ?k8 ?a9 ?l9 ?c9 ?k9 ?a10 ?l10 ?c10 ?k10 ?a11 ?l11 ?c11 ?k11 ?a12 ?l12 ?c12 ?k12 ?a13 ?l13 ?c13 ?k13 ?a14 ?l14 ?c14 ?k14 ?a15 ?l15 ?c15 ?k15 ?a16 ?l16 ?c16 ?k16 ?a17 ?l17 ?c17 ?k17 ?a18 ?l18 ?c18 ?k18 ?a19 ?l19 ?c19 ?k19 ?a20 ?l20 ?c20 ?k20 ?a21 ?l21 ?c21 ?k21 ?a22 ?l22 ?c22 ?k22 ?a23 ?l23 ?c23 ?k23 ?a24 ?l24 ?c24 ?k24 ?z0 ?z1 ?z2 ?z3 ?z4 ?z5 ?z6 ?z7 ?z8 ?z9 ?z10 ?gTurnError ?gNoNumber ?gNoNest ?gNoOrder ?gNoRow ?gNoText ?gNoTurn ?gNoWords ?gTooMany ?x1 ?x2 ?x3 ?x4 ?x5 ?x6 ?x7 ?x8 ?x9 ?t1 ?t2 ?t3 ?t4 ?t5 ?w0 ?v0 ?bx1 ?bx2 ?bx3 ?bx4 ?bx5 ?bx6 ?bx7 ?bx8 ?bx9 ?bt1 ?bt2 ?bt3 ?bt4 ?bt5 ?bw0 ?bv0 ?gM
    (case a0 => k_is)
    (case l0 => k_is)
    (case c0 => k_is)
    (case k0 => k_is)
    (case a1 => k_is)
    (case l1 => k_is)
    (case c1 => k_is)
    (case k1 => k_is)
    (case a2 => k_is)
    (case l2 => k_is)
    (case c2 => k_is)
    (case k2 => k_is)
    (case a3 => k_is)
    (case l3 => k_is)
    (case c3 => k_is)
    (case k3 => k_is)
    (case a4 => k_is)
    (case l4 => k_is)
    (case c4 => k_is)
    (case k4 => k_is)
    (case a5 => k_is)
    (case l5 => k_is)
    (case c5 => k_is)
    (case k5 => k_is)
    (case a6 => k_is)
    (case l6 => k_is)
    (case c6 => k_is)
    (case k6 => k_is)
    (case a7 => k_is)
    (case l7 => k_is)
    (case c7 => k_is)
    (case k7 => k_is)
    (case a8 => k_is)
    (case l8 => k_is)
    (case c8 => k_is)
    (case k8 => k_is)
    (case a9 => k_is)
    (case l9 => k_is)
    (case c9 => k_is)
    (case k9 => k_is)
    (case a10 => k_is)
    (case l10 => k_is)
    (case c10 => k_is)
    (case k10 => k_is)
    (case a11 => k_is)
    (case l11 => k_is)
    (case c11 => k_is)
    (case k11 => k_is)
    (case a12 => k_is)
    (case l12 => k_is)
    (case c12 => k_is)
    (case k12 => k_is)
    (case a13 => k_is)
    (case l13 => k_is)
    (case c13 => k_is)
    (case k13 => k_is)
    (case a14 => k_is)
    (case l14 => k_is)
    (case c14 => k_is)
    (case k14 => k_is)
    (case a15 => k_is)
    (case l15 => k_is)
    (case c15 => k_is)
    (case k15 => k_is)
    (case a16 => k_is)
    (case l16 => k_is)
    (case c16 => k_is)
    (case k16 => k_is)
    (case a17 => k_is)
    (case l17 => k_is)
    (case c17 => k_is)
    (case k17 => k_is)
    (case a18 => k_is)
    (case l18 => k_is)
    (case c18 => k_is)
    (case k18 => k_is)
    (case a19 => k_is)
    (case l19 => k_is)
    (case c19 => k_is)
    (case k19 => k_is)
    (case a20 => k_is)
    (case l20 => k_is)
    (case c20 => k_is)
    (case k20 => k_is)
    (case a21 => k_is)
    (case l21 => k_is)
    (case c21 => k_is)
    (case k21 => k_is)
    (case a22 => k_is)
    (case l22 => k_is)
    (case c22 => k_is)
    (case k22 => k_is)
    (case a23 => k_is)
    (case l23 => k_is)
    (case c23 => k_is)
    (case k23 => k_is)
    (case a24 => k_is)
    (case l24 => k_is)
    (case c24 => k_is)
    (case k24 => k_is)
    (case z0 => k_is)
    (case z1 => k_is)
    (case z2 => k_is)
    (case z3 => k_is)
    (case z4 => k_is)
    (case z5 => k_is)
    (case z6 => k_is)
    (case z7 => k_is)
    (case z8 => k_is)
    (case z9 => k_is)
    (case z10 => k_is)
    (case gTurnError => k_is)
    (case gNoNumber => k_is)
    (case gNoNest => k_is)
    (case gNoOrder => k_is)
    (case gNoRow => k_is)
    (case gNoText => k_is)
    (case gNoTurn => k_is)
    (case gNoWords => k_is)
    (case gTooMany => k_is)
    (case x1 => k_exc)
    (case x2 => k_is)
    (case x3 => k_is)
    (case x4 => k_is)
    (case x5 => k_is)
    (case x6 => k_is)
    (case x7 => k_is)
    (case x8 => k_is)
    (case x9 => k_is)
    (case t1 => k_is)
    (case t2 => k_is)
    (case t3 => k_is)
    (case t4 => k_is)
    (case t5 => first | kit_is | k_is)
    (case w0 => first | kit_is | k_is)
    (case v0 => first | kit_is | k_is)
    (case bx1 => k_exc)
    (case bx2 => k_is)
    (case bx3 => k_is)
    (case bx4 => k_is)
    (case bx5 => k_is)
    (case bx6 => k_is)
    (case bx7 => k_is)
    (case bx8 => k_is)
    (case bx9 => k_is)
    (case bt1 => k_is)
    (case bt2 => k_is)
    (case bt3 => k_is)
    (case bt4 => k_is)
    (case bt5 => first | kit_is | k_is)
    (case bw0 => first | kit_is | k_is)
    (case bv0 => first | kit_is | k_is)
    (case gM => k_is)
