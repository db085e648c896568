import PyProof.Rows.All
import Wide.All
import OpenK.AllK
import Wide.FinOn
import Lean
import PyProof.EqAt
import PyProof.EqKinds
import PyProof.TupleCall
import PyProof.NsDelKeeps
import PyProof.NeKinds
import PyProof.ListRange
import PyProof.SumWalkG
import PyProof.WalkInts
import PyProof.SeqI3
import KE.KUnpack
import PyProof.ReprRoads
import PySem.Challenge.RW_turnnest_k82_whole_marked_texts
set_option Elab.async false
set_option linter.all false
set_option maxRecDepth 100000
local macro_rules | `(tactic| omega) => `(tactic| first | lia | omega (config := {}))
namespace L2
open PySem PySem.Spec PyProof.Rows
abbrev Key := Sum Int Str
def keyIs : Key → Value → Bool
  | .inl k, v => Value.isInt k v
  | .inr x, v => Value.isStrOf x v
def keyH (w : World) : Key → Int
  | .inl k => hashInt k
  | .inr x => hashStr w x
theorem keyIs_shape : ∀ {k : Key} {v : Value}, keyIs k v = true → (∃ i t, k = Sum.inl i ∧ v = Value.int i t) ∨ (∃ x t, k = Sum.inr x ∧ v = Value.str x t)
  | .inl i, v, h => by
    obtain ⟨t, e⟩ := Value.isInt_shape (k := i) (v := v) h
    exact .inl ⟨i, t, rfl, e⟩
  | .inr x, v, h => by
    obtain ⟨t, e⟩ := Value.isStrOf_shape (x := x) (v := v) h
    exact .inr ⟨x, t, rfl, e⟩
theorem keyIs_int (i : Int) (t : Tok) : keyIs (.inl i) (.int i t) = true := by simp [keyIs, Value.isInt]
theorem keyIs_str (x : Str) (t : Tok) : keyIs (.inr x) (.str x t) = true := by simp [keyIs, Value.isStrOf]
theorem key_ll (a b : Int) : decide ((Sum.inl a : Key) = Sum.inl b) = (a == b) := by
  by_cases e : a = b
  · subst e; simp
  · have h : ¬ (Sum.inl a : Key) = Sum.inl b := fun q => e (Sum.inl.inj q)
    rw [decide_eq_false h]
    exact (beq_eq_false_iff_ne.mpr e).symm
theorem key_rr (a b : Str) : decide ((Sum.inr a : Key) = Sum.inr b) = decide (a = b) := by
  by_cases e : a = b
  · subst e; simp
  · have h : ¬ (Sum.inr a : Key) = Sum.inr b := fun q => e (Sum.inr.inj q)
    rw [decide_eq_false h, decide_eq_false e]
theorem key_lr (a : Int) (b : Str) : decide ((Sum.inl a : Key) = Sum.inr b) = false := decide_eq_false (fun q => nomatch q)
theorem key_rl (a : Str) (b : Int) : decide ((Sum.inr a : Key) = Sum.inl b) = false := decide_eq_false (fun q => nomatch q)
def mixKind (prog : Program) (w : World) : PySem.KeyKind prog w Key where
  is := keyIs
  hash := keyH w
  inj := fun v a b ha hb => by
    rcases keyIs_shape ha with ⟨i, t, rfl, rfl⟩ | ⟨x, t, rfl, rfl⟩
    · rcases keyIs_shape hb with ⟨j, u, rfl, e⟩ | ⟨y, u, rfl, e⟩
      · injection e with e1 _; rw [e1]
      · exact nomatch e
    · rcases keyIs_shape hb with ⟨j, u, rfl, e⟩ | ⟨y, u, rfl, e⟩
      · exact nomatch e
      · injection e with e1 _; rw [e1]
  byValue := fun k v h => by
    rcases keyIs_shape h with ⟨i, t, rfl, rfl⟩ | ⟨x, t, rfl, rfl⟩ <;> rfl
  pyHash := fun hv h => by
    rcases keyIs_shape hv with ⟨i, t, rfl, rfl⟩ | ⟨x, t, rfl, rfl⟩
    · exact wpAny_pyHash_int h
    · exact wpAny_pyHash_str h
  eqBool := fun hu hv h => by
    rcases keyIs_shape hu with ⟨i, t, rfl, rfl⟩ | ⟨x, t, rfl, rfl⟩
    · rcases keyIs_shape hv with ⟨j, u, rfl, rfl⟩ | ⟨y, u, rfl, rfl⟩
      · rw [key_ll] at h; exact wpAny_eqBool_int h
      · rw [key_lr] at h; exact SeqAt.EqAt.int_str i t y u _ _ _ _ h
    · rcases keyIs_shape hv with ⟨j, u, rfl, rfl⟩ | ⟨y, u, rfl, rfl⟩
      · rw [key_rl] at h; exact SeqAt.EqAt.str_int x t j u _ _ _ _ h
      · rw [key_rr] at h; exact wpAny_eqBool_str h
  «strs» := fun k x t v h => by
    rcases keyIs_shape h with ⟨i, u, rfl, e⟩ | ⟨y, u, rfl, e⟩
    · exact nomatch e
    · injection e with e1 _
      subst e1
      cases v <;> rfl
theorem mixKind_int (prog : Program) (w : World) (i : Int) (t : Tok) : (mixKind prog w).is (.inl i) (.int i t) = true := keyIs_int i t
theorem mixKind_str (prog : Program) (w : World) (x : Str) (t : Tok) : (mixKind prog w).is (.inr x) (.str x t) = true := keyIs_str x t
end L2
namespace L2
open PySem PySem.Spec PyProof.Rows
inductive V where
  | non | bl (b : Bool) | int (i : Int) | str (x : Str) | byt (b : Array UInt8) | flt (b : UInt64) | ref (a : Addr) | ty (n : String)
  deriving DecidableEq
def RelV : V → Value → Prop
  | .non, u => u = Value.none
  | .bl b, u => u = Value.bool b
  | .int i, u => ∃ t, u = Value.int i t
  | .str x, u => ∃ t, u = Value.str x t
  | .byt b, u => ∃ t, u = Value.bytes b t
  | .flt b, u => ∃ t, u = Value.float b t
  | .ref a, u => u = Value.ref a
  | .ty n, u => u = Value.type n
abbrev Vals : List V → List Value → Prop := Paired RelV
theorem Vals.length {xs : List V} {us : List Value} (r : Vals xs us) : xs.length = us.length := Paired.length r
theorem Vals.get : ∀ {xs : List V} {us : List Value} {i : Nat} {x : V}, Vals xs us → xs[i]? = some x → ∃ u, us[i]? = some u ∧ RelV x u
  | _, _, _, _, .nil, e => by simp at e
  | _, _, 0, _, .cons r _, e => by simp at e; subst e; exact ⟨_, rfl, r⟩
  | _, _, i + 1, x, .cons _ t, e => by
    obtain ⟨u, h1, h2⟩ := Vals.get (i := i) (x := x) t (by simpa using e)
    exact ⟨u, by simpa using h1, h2⟩
theorem Vals.set {x : V} {u : Value} (r : RelV x u) : ∀ {xs : List V} {us : List Value} (i : Nat), Vals xs us → Vals (xs.set i x) (us.set i u)
  | _, _, _, .nil => .nil
  | _, _, 0, .cons _ t => .cons r t
  | _, _, i + 1, .cons q t => .cons q (Vals.set r i t)
theorem Vals.append : ∀ {xs ys : List V} {us ws : List Value}, Vals xs us → Vals ys ws → Vals (xs ++ ys) (us ++ ws)
  | _, _, _, _, .nil, s => s
  | _, _, _, _, .cons r t, s => .cons r (Vals.append t s)
theorem Vals.take : ∀ {xs : List V} {us : List Value} (n : Nat), Vals xs us → Vals (xs.take n) (us.take n)
  | _, _, 0, _ => .nil
  | _, _, _ + 1, .nil => .nil
  | _, _, n + 1, .cons r t => .cons r (Vals.take n t)
theorem Vals.drop : ∀ {xs : List V} {us : List Value} (n : Nat), Vals xs us → Vals (xs.drop n) (us.drop n)
  | _, _, 0, r => r
  | _, _, _ + 1, .nil => .nil
  | _, _, n + 1, .cons _ t => Vals.drop n t
def RelO : Option V → Option Value → Prop
  | some v, some u => RelV v u
  | none, none => True
  | _, _ => False
def KV {κ : Type} : List (κ × V) → List (κ × Value) → Prop := Paired fun (p : κ × V) (q : κ × Value) => p.1 = q.1 ∧ RelV p.2 q.2
def kV : Key → V
  | .inl i => .int i
  | .inr x => .str x
def IsTupN (h : Heap) (a : Addr) (items : Array Value) : Prop := ∃ o, h.get? a = some o ∧ o.cls = .type "tuple" ∧ (∃ n, o.data = .seq items n) ∧ o.dict = none
theorem IsTupN.tup {h : Heap} {a : Addr} {items : Array Value} (x : IsTupN h a items) : IsTup h a items := let ⟨o, e, c, d, _⟩ := x; ⟨o, e, c, d⟩
theorem IsTupN.new (h : Heap) (items : Array Value) : IsTupN (h.push { cls := .type "tuple", data := .seq items }) h.objs.size items := ⟨_, Heap.get?_push_size _ rfl, rfl, ⟨_, rfl⟩, rfl⟩
inductive HO where
  /-- a list -/
  | lst (xs : List V)
  /-- a tuple (never changes) -/
  | tup (xs : List V)
  /-- a dict whose keys are ints and texts; one whose keys are tuples of ints and texts (the empty one is both) -/
  | dK (kvs : List (Key × V)) | dT (kvs : List (List Key × V))
  /-- a set of ints: its members, its size -/
  | set (S : Int → Bool) (n : Nat)
  /-- an instance of the class at C, its dict at dx, its attributes -/
  | ins (C dx : Addr) (fs : List (Str × V))
  /-- the dict of the instance at x -/
  | own (x : Addr)
  /-- the dict of an exception -/
  | xd (fs : List (Str × V))
  /-- a bound method, f of x -/
  | met (f x : Addr)
  /-- a range object lo, lo + 1, .. below hi -/
  | rng (lo hi : Int)
  /-- a thing that is known to the object (the script; a dict while a loop walks it): read, never written while it is so -/
  | frz (o : Obj) (u : HO)
  /-- a code object's table -/
  | tbl (ps : Array Value)
  | lam (q : Str)
  /-- any other thing, by what is true of its one object (a def of one's own: SetO a S n := HO.ext fun h => ..) -/
  | ext (φ : Heap → Prop)
abbrev Hp := Addr → Option HO
def upd (H : Hp) (a : Addr) (o : HO) : Hp := fun b => if b = a then some o else H b
theorem upd_same {H : Hp} {a : Addr} {o : HO} : upd H a o a = some o := by unfold upd; rw [if_pos rfl]
theorem upd_ne {H : Hp} {a b : Addr} {o : HO} (h : b ≠ a) : upd H a o b = H b := by unfold upd; rw [if_neg h]
theorem upd_upd {H : Hp} {a : Addr} {o u : HO} : upd (upd H a o) a u = upd H a u := by
  funext b; unfold upd; split <;> rfl
theorem ne_of {H : Hp} {a b : Addr} {o u : HO} (h : H a = some o) (h' : H b = some u) (d : o ≠ u) : a ≠ b := by
  intro e; subst e; rw [h] at h'; exact d (Option.some.inj h')
theorem ne_of_none {H : Hp} {a b : Addr} {o : HO} (h : H a = some o) (h' : H b = none) : a ≠ b := by
  intro e; subst e; rw [h] at h'; cases h'
section
variable (P : Program) (w : World)
def ObjOk (H : Hp) (h : Heap) (a : Addr) : HO → Prop
  | .lst xs => xs.length ≤ sizeLine ∧ ∃ (its : List Value) (n : Nat), Vals xs its ∧ h.get? a = some { cls := .type "list", data := .seq its.toArray n }
  | .tup xs => xs.length ≤ sizeLine ∧ ∃ its : List Value, Vals xs its ∧ IsTupN h a its.toArray
  | .dK kvs => kvs.length ≤ sizeLine ∧ (a == sysModules) = false ∧ ∃ vs, KV kvs vs ∧ h.DictOf (mixKind P w) a vs
  | .dT kvs => kvs.length ≤ sizeLine ∧ (a == sysModules) = false ∧ ∃ xs : List (List Key × Addr × Value),
      Paired (fun (p : List Key × V) (q : List Key × Addr × Value) => p.1 = q.1 ∧ H q.2.1 = some (.tup (p.1.map kV)) ∧ RelV p.2 q.2.2) kvs xs ∧
      ∃ o es ep, h.get? a = some o ∧ o.ExactDict ∧ o.data = .dict es ep ∧ es.toList = xs.map (entryOfKey (tupleKind (mixKind P w))) ∧ (xs.map (·.1)).Nodup
  | .set S n => h.SetOf (intKind P w) a S n
  | .ins C dx fs => H dx = some (.own a) ∧ fs.length ≤ 1000 ∧ dx ≠ a ∧ h.get? a = some (PySem.W.instObj C dx) ∧
      ∃ mA, h.Ns1 dx mA ∧ (∀ f, RelO (fs.lookup f) (mA f)) ∧ PySem.Within mA (fs.map (·.1))
  | .own _ => ∃ o, h.get? a = some o
  | .xd fs => ∃ mA, h.Ns1 a mA ∧ ∀ f, RelO (fs.lookup f) (mA f)
  | .rng lo hi => ∃ t u v, h.get? a = some { cls := .type "range", data := .fields #[.int lo t, .int hi u, .int 1 v] }
  | .frz o u => h.get? a = some o ∧ ObjOk H h a u
  | .tbl ps => h.get? a = some { cls := .none, data := .fields ps }
  | .lam q => ∃ ps : Array Value, h.get? a = some { cls := .none, data := .fields ps } ∧ TriplesOk ps.toList ∧ ∀ (pos : Pos) (cv : Value), codeAmong pos ps.toList = some cv →
      ∃ (c : Addr) (oc : Obj) (fv : Array Value) (t : Tok), cv = .ref c ∧ H c = some (.frz oc (.own c)) ∧ oc.data = .fields fv ∧ fv[1]? = some (.str q t)
  | .met f x => h.get? a = some (PySem.W.methodObj (.ref f) (.ref x))
  | .ext φ => φ h ∧ (∃ o, h.get? a = some o) ∧ ∀ h1 h2 : Heap, φ h1 → (∀ o, h1.get? a = some o → h2.get? a = some o) → φ h2
def HOk (H : Hp) (h : Heap) : Prop := ∀ a o, H a = some o → ObjOk P w H h a o
end
section
variable {P : Program} {w : World} {H H' : Hp} {h h' : Heap} {a : Addr} {o : HO}
theorem ObjOk.lt (x : ObjOk P w H h a o) : a < h.objs.size := by
  cases o with
  | lst xs => obtain ⟨_, _, _, _, e⟩ := x; exact Heap.lt_size e
  | tup xs => obtain ⟨_, _, _, p⟩ := x; exact p.tup.lt
  | dK kvs => obtain ⟨_, _, _, _, o, _, _, e, _⟩ := x; exact Heap.lt_size e
  | dT kvs => obtain ⟨_, _, _, _, o, _, _, e, _⟩ := x; exact Heap.lt_size e
  | set S n => obtain ⟨o, _, _, _, e, _⟩ := x; exact Heap.lt_size e
  | ins C dx fs => obtain ⟨_, _, _, e, _⟩ := x; exact Heap.lt_size e
  | own y => obtain ⟨_, e⟩ := x; exact Heap.lt_size e
  | xd fs => obtain ⟨_, ⟨_, _, _, e, _⟩, _⟩ := x; exact Heap.lt_size e
  | rng lo hi => obtain ⟨_, _, _, e⟩ := x; exact Heap.lt_size e
  | frz ob u => obtain ⟨e, _⟩ := x; exact Heap.lt_size e
  | tbl ps => exact Heap.lt_size (show h.get? a = some _ from x)
  | lam q => obtain ⟨_, e, _⟩ := x; exact Heap.lt_size e
  | met f y => exact Heap.lt_size (show h.get? a = some _ from x)
  | ext φ => obtain ⟨_, ⟨_, e⟩, _⟩ := x; exact Heap.lt_size e
theorem Paired.mapP {α β : Type} {F G : α → β → Prop} : ∀ {l₁ : List α} {l₂ : List β}, Paired F l₁ l₂ → (∀ a b, F a b → G a b) → Paired G l₁ l₂
  | _, _, .nil, _ => .nil
  | _, _, .cons r t, f => .cons (f _ _ r) (Paired.mapP t f)
theorem ObjOk.stay (x : ObjOk P w H h a o) (k : ∀ b u, (b = a ∨ H b = some (.own a)) → h.get? b = some u → h'.get? b = some u)
    (ho : ∀ b, H b = some (.own a) → H' b = some (.own a)) (ht : ∀ b xs, H b = some (.tup xs) → H' b = some (.tup xs)) (hf : ∀ b ob u, H b = some (.frz ob u) → H' b = some (.frz ob u) := by first | exact fun _ _ _ z => z | (intro c ob u z; rw [upd_ne (ne_of_none z (by assumption))]; exact z)) : ObjOk P w H' h' a o := by
  induction o with
  | lst xs => obtain ⟨z, its, n, r, e⟩ := x; exact ⟨z, its, n, r, k _ _ (.inl rfl) e⟩
  | tup xs => obtain ⟨z, its, r, ob, e, c⟩ := x; exact ⟨z, its, r, ob, k _ _ (.inl rfl) e, c⟩
  | dK kvs => obtain ⟨z, y, vs, r, ob, es, ep, e, c⟩ := x; exact ⟨z, y, vs, r, ob, es, ep, k _ _ (.inl rfl) e, c⟩
  | dT kvs =>
    obtain ⟨z, y, xs, r, ob, es, ep, e, c⟩ := x
    exact ⟨z, y, xs, Paired.mapP r fun p q z => ⟨z.1, ht _ _ z.2.1, z.2.2⟩, ob, es, ep, k _ _ (.inl rfl) e, c⟩
  | set S n => obtain ⟨ob, es, ep, t, e, c⟩ := x; exact ⟨ob, es, ep, t, k _ _ (.inl rfl) e, c⟩
  | ins C dx fs =>
    obtain ⟨d, z, ne, e, mA, ⟨od, es, ep, e2, c⟩, r⟩ := x
    exact ⟨ho _ d, z, ne, k _ _ (.inl rfl) e, mA, ⟨od, es, ep, k _ _ (.inr d) e2, c⟩, r⟩
  | own y => obtain ⟨ob, e⟩ := x; exact ⟨ob, k _ _ (.inl rfl) e⟩
  | xd fs => obtain ⟨mA, ⟨od, es, ep, e, c⟩, r⟩ := x; exact ⟨mA, ⟨od, es, ep, k _ _ (.inl rfl) e, c⟩, r⟩
  | rng lo hi => obtain ⟨t, u, v, e⟩ := x; exact ⟨t, u, v, k _ _ (.inl rfl) e⟩
  | frz ob u ih => obtain ⟨e, q⟩ := x; exact ⟨k _ _ (.inl rfl) e, ih q⟩
  | tbl ps =>
    have e : h.get? a = some { cls := .none, data := .fields ps } := x
    show h'.get? a = some { cls := .none, data := .fields ps }
    exact k a _ (.inl rfl) e
  | met f y =>
    have e : h.get? a = some (PySem.W.methodObj (.ref f) (.ref y)) := x
    show h'.get? a = some (PySem.W.methodObj (.ref f) (.ref y))
    exact k a _ (.inl rfl) e
  | lam q => obtain ⟨ps, e, t, c⟩ := x; exact ⟨ps, k _ _ (.inl rfl) e, t, fun pos cv z => let ⟨c', oc, fv, tk, q1, q2, q3⟩ := c pos cv z; ⟨c', oc, fv, tk, q1, hf _ _ _ q2, q3⟩⟩
  | ext φ => obtain ⟨p, ⟨o, e⟩, st⟩ := x; exact ⟨st _ _ p fun o q => k _ _ (.inl rfl) q, ⟨o, k _ _ (.inl rfl) e⟩, st⟩
theorem HOk.lt (x : HOk P w H h) (e : H a = some o) : a < h.objs.size := (x a o e).lt
theorem HOk.fresh (x : HOk P w H h) (e : h.objs.size ≤ a) : H a = none := by
  cases q : H a with
  | none => rfl
  | some u => exact absurd (Nat.lt_of_lt_of_le (x.lt q) e) (Nat.lt_irrefl _)
theorem HOk.kept (x : HOk P w H h) (k : ∀ b u, h.get? b = some u → h'.get? b = some u) : HOk P w H h' := fun a o e =>
  (x a o e).stay (fun b u _ q => k b u q) (fun _ q => q) (fun _ _ q => q) fun _ _ _ q => q
theorem HOk.laid (x : HOk P w H h) (k : ∀ b u, h.get? b = some u → h'.get? b = some u) (hp : h.objs.size ≤ a) (new : ObjOk P w (upd H a o) h' a o) : HOk P w (upd H a o) h' := fun b u e => by
  have hn := x.fresh hp
  by_cases hb : b = a
  · subst hb; rw [upd_same] at e; cases e; exact new
  · rw [upd_ne hb] at e
    exact (x b u e).stay (fun c v _ q => k c v q) (fun c q => by rw [upd_ne (ne_of_none q hn)]; exact q) (fun c xs q => by rw [upd_ne (ne_of_none q hn)]; exact q) fun c ob xs q => by rw [upd_ne (ne_of_none q hn)]; exact q
end
def Rd (H : Hp) (a : Addr) (u : HO) : Prop := H a = some u ∨ ∃ o, H a = some (.frz o u)
theorem Rd.of {H : Hp} {a : Addr} {u : HO} (h : H a = some u) : Rd H a u := .inl h
theorem Rd.ok {P : Program} {w : World} {H : Hp} {h : Heap} {a : Addr} {u : HO} (r : Rd H a u) (x : HOk P w H h) : ObjOk P w H h a u := by
  rcases r with r | ⟨o, r⟩
  · exact x a u r
  · obtain ⟨_, q⟩ := x a _ r
    exact q
def Mut : Option HO → Prop
  | some (.lst _) => True
  | some (.dK _) => True
  | some (.dT _) => True
  | some (.set _ _) => True
  | some (.ins _ _ _) => True
  | some (.ext _) => True
  | some (.lam _) => True
  | _ => False
section
variable {P : Program} {w : World} {H : Hp} {h h' : Heap} {x e : Addr} {o' : HO}
theorem HOk.write (ok : HOk P w H h) (mu : Mut (H x)) (he : e = x ∨ H e = some (.own x)) (k : ∀ b u, b ≠ e → h.get? b = some u → h'.get? b = some u) (heo : ∃ u, h'.get? e = some u)
    (new : ObjOk P w (upd H x o') h' x o') : HOk P w (upd H x o') h' := fun b u q => by
  have nown : ∀ c y, H c = some (.own y) → c ≠ x := fun c y r z => by subst z; rw [r] at mu; exact mu
  have ntup : ∀ c xs, H c = some (.tup xs) → c ≠ x := fun c xs r z => by subst z; rw [r] at mu; exact mu
  have nfrz : ∀ c ob xs, H c = some (.frz ob xs) → c ≠ x := fun c ob xs r z => by subst z; rw [r] at mu; exact mu
  by_cases hb : b = x
  · subst hb; rw [upd_same] at q; cases q; exact new
  · rw [upd_ne hb] at q
    by_cases hbe : b = e
    · have q' : H b = some (.own x) := by
        rcases he with z | z
        · exact absurd (hbe.trans z) hb
        · rw [hbe]; exact z
      rw [q] at q'; cases q'
      obtain ⟨v, hv⟩ := heo
      exact ⟨v, by rw [hbe]; exact hv⟩
    · refine (ok b u q).stay (fun c v hc r => k c v ?_ r) (fun c r => by rw [upd_ne (nown c b r)]; exact r) (fun c xs r => by rw [upd_ne (ntup c xs r)]; exact r) fun c ob xs r => by rw [upd_ne (nfrz c ob xs r)]; exact r
      rcases hc with rfl | hc
      · exact hbe
      · rintro rfl
        rcases he with z | z
        · exact nown c b hc z
        · rw [hc] at z; cases z; exact hb rfl
end
structure Un (fs ex : List Addr) (H H' : Hp) (h h' : Heap) : Prop where
  keep : ∀ b o, h.get? b = some o → H b = none → b ∉ fs → b ∉ ex → h'.get? b = some o
  slot : ∀ b o, h.get? b = some o → H b = none → b ∈ fs → b ∉ ex → ∃ sl, h'.get? b = some { o with slots := sl }
  free : ∀ b o, h.get? b = some o → H b = none → b ∉ ex → H' b = none
  there : ∀ b o, h.get? b = some o → b ∉ ex → ∃ o', h'.get? b = some o'
  tups : ∀ b xs, H b = some (.tup xs) → H' b = some (.tup xs)
  frzs : ∀ b o u, H b = some (.frz o u) → H' b = some (.frz o u)
  tbls : ∀ b ps, H b = some (.tbl ps) → ∃ more, H' b = some (.tbl (ps ++ more))
section
variable {fs fs' ex ex' : List Addr} {H H1 H2 : Hp} {h h1 h2 h' : Heap} {a x e : Addr} {o : HO}
theorem Un.any (u : Un fs ex H H1 h h1) {b : Addr} {ob : Obj} (q : h.get? b = some ob) (n : H b = none) (hx : b ∉ ex) : ∃ sl, h1.get? b = some { ob with slots := sl } := by
  by_cases hb : b ∈ fs
  · exact u.slot b ob q n hb hx
  · exact ⟨ob.slots, u.keep b ob q n hb hx⟩
theorem Un.trans (a : Un fs ex H H1 h h1) (b : Un fs ex H1 H2 h1 h2) : Un fs ex H H2 h h2 where
  keep := fun c ob q n hc hx => b.keep c ob (a.keep c ob q n hc hx) (a.free c ob q n hx) hc hx
  slot := fun c ob q n hc hx => by
    obtain ⟨sl, e1⟩ := a.slot c ob q n hc hx
    obtain ⟨sl', e2⟩ := b.slot c _ e1 (a.free c ob q n hx) hc hx
    exact ⟨sl', e2⟩
  free := fun c ob q n hx => by
    obtain ⟨o', e1⟩ := a.there c ob q hx
    exact b.free c o' e1 (a.free c ob q n hx) hx
  there := fun c ob q hx => by
    obtain ⟨o', e1⟩ := a.there c ob q hx
    exact b.there c o' e1 hx
  tups := fun c xs q => b.tups c xs (a.tups c xs q)
  frzs := fun c ob xs q => b.frzs c ob xs (a.frzs c ob xs q)
  tbls := fun c ps q => by
    obtain ⟨m1, e1⟩ := a.tbls c ps q
    obtain ⟨m2, e2⟩ := b.tbls c _ e1
    exact ⟨m1 ++ m2, by rw [e2, Array.append_assoc]⟩
theorem Un.kept (k : ∀ b u, h.get? b = some u → h'.get? b = some u) : Un fs ex H H h h' :=
  ⟨fun b ob q _ _ _ => k b ob q, fun b ob q _ _ _ => ⟨ob.slots, k b ob q⟩, fun _ _ _ n _ => n, fun b ob q _ => ⟨ob, k b ob q⟩, fun _ _ q => q, fun _ _ _ q => q, fun _ ps q => ⟨#[], by rw [q]; simp⟩⟩
theorem Un.refl : Un fs ex H H h h := Un.kept fun _ _ q => q
theorem Un.laid (k : ∀ b u, h.get? b = some u → h'.get? b = some u) (hp : h.objs.size ≤ a) (hn : H a = none) : Un fs ex H (upd H a o) h h' where
  keep := fun b u q _ _ _ => k b u q
  slot := fun b u q _ _ _ => ⟨u.slots, k b u q⟩
  free := fun b u q n _ => by rw [upd_ne (Nat.ne_of_lt (Nat.lt_of_lt_of_le (Heap.lt_size q) hp))]; exact n
  there := fun b u q _ => ⟨u, k b u q⟩
  tups := fun b xs q => by rw [upd_ne (ne_of_none q hn)]; exact q
  frzs := fun b u xs q => by rw [upd_ne (ne_of_none q hn)]; exact q
  tbls := fun b ps q => ⟨#[], by rw [upd_ne (ne_of_none q hn), q]; simp⟩
theorem Un.write (mu : Mut (H x)) (he : e = x ∨ H e = some (.own x)) (k : ∀ b u, b ≠ e → h.get? b = some u → h'.get? b = some u) (heo : ∃ u, h'.get? e = some u) : Un fs ex H (upd H x o) h h' := by
  have hx : ∀ b, H b = none → b ≠ x := fun b n z => by subst z; rw [n] at mu; exact mu
  have hb : ∀ b, H b = none → b ≠ e := fun b n z => by
    subst z
    rcases he with r | r
    · exact hx b n r
    · rw [n] at r; cases r
  have hm : ∀ b u, H b = some u → ¬ Mut (some u) → b ≠ x := fun b u q nm z => by subst z; rw [q] at mu; exact nm mu
  refine ⟨fun b u q n _ _ => k b u (hb b n) q, fun b u q n _ _ => ⟨u.slots, k b u (hb b n) q⟩, fun b u q n _ => by rw [upd_ne (hx b n)]; exact n, fun b u q _ => ?_,
    fun b xs q => by rw [upd_ne (hm b _ q fun z => z)]; exact q, fun b u xs q => by rw [upd_ne (hm b _ q fun z => z)]; exact q, fun b ps q => ⟨#[], by rw [upd_ne (hm b _ q fun z => z), q]; simp⟩⟩
  by_cases hbe : b = e
  · subst hbe; exact heo
  · exact ⟨u, k b u hbe q⟩
theorem Un.mono (u : Un fs ex H H1 h h1) (hs : ∀ b ∈ fs, b ∈ fs') (hx : ∀ b ∈ ex, b ∈ ex') : Un fs' ex' H H1 h h1 :=
  ⟨fun b ob q n hb he => u.keep b ob q n (fun z => hb (hs b z)) fun z => he (hx b z), fun _ _ q n _ he => u.any q n fun z => he (hx _ z), fun b ob q n he => u.free b ob q n fun z => he (hx b z), fun b ob q he => u.there b ob q fun z => he (hx b z), u.tups, u.frzs, u.tbls⟩
end
def trk (h : Heap) (H : Hp) : List Addr := (List.range h.objs.size).filter fun a => (H a).isSome
def hidT (h : Heap) (H : Hp) : Heap := PySem.W.hideAll h (trk h H)
theorem hidT_size (h : Heap) (H : Hp) : (hidT h H).objs.size = h.objs.size := PySem.W.hideAll_size _ _
theorem hidT_get {h : Heap} {H : Hp} {b : Addr} {o : Obj} (e : h.get? b = some o) (n : H b = none) : (hidT h H).get? b = some o :=
  PySem.W.hideAll_get _ e fun hm => by
    have q : (H b).isSome = true := (List.mem_filter.mp hm).2
    rw [n] at q; simp at q
theorem of_hidT {h : Heap} {H : Hp} {b : Addr} {o : Obj} (e : (hidT h H).get? b = some o) : h.get? b = some o ∧ H b = none := by
  have e' : h.get? b = some o := PySem.W.of_hideAll (trk h H) e
  refine ⟨e', ?_⟩
  cases q : H b with
  | none => rfl
  | some x =>
    have hm : b ∈ trk h H := List.mem_filter.mpr ⟨List.mem_range.mpr (Heap.lt_size e'), by simp [q]⟩
    have z : (hidT h H).get? b = none := PySem.W.hideAll_none (trk h H) hm
    rw [z] at e; cases e
def allNews (g h : Heap) (L : Addr) : List (Addr × Obj) := (List.range h.objs.size).filterMap fun a => if a = L ∨ (g.get? a).isSome = true then none else (h.get? a).map fun o => (a, o)
def rest (g h : Heap) (L d : Addr) : List (Addr × Obj) := (allNews g h L).filter fun p => decide (p.1 ≠ d)
end L2
namespace L2
open PySem PySem.Spec PyProof.Rows
structure Mod (K : PySem.W.Frag) (mg : Str → Option Value) (base : Heap) : Prop where
  kin : K.In base
  glob : base.Ns mainGlobals mg
  blt : ∃ mb, base.Ns builtinsNs mb ∧ ∀ x : Str, x ≠ "__name__" → mb x = bootBuiltins x
  nolimit : base.NoLimit
/-- the context: a def's body (or a comprehension's block) running. base: fixed through the whole law; s₀, H₀: the entry; outer: the frames whose slots others may change (a def's callers); stack: all frames that run;
   ex: iterators that were made ahead of the entry and are walked here (a comprehension's); fn: the names whose cells were made at the entry (a def: all; a comprehension's block: its own); calm: not within an except suite; pn: pins that every state bears; xe: what is wanted of an exception that leaves the code -/
structure Cx where
  prog : Program
  w : World
  K : PySem.W.Frag
  mg : Str → Option Value
  base : Heap
  A : Around
  N : List Str
  s₀ : Shared
  H₀ : Hp
  env : Env
  outer : List Env
  stack : List Env
  ex : List Addr
  fn : Str → Bool
  calm : Bool
  pn : List (Addr × Obj)
  xe : Value → Shared → Prop
def frs (l : List Env) : List Addr := l.filterMap (·.frame)
abbrev Cx.fs (X : Cx) : List Addr := frs X.outer
def Vis (sc : Scope) (x : Str) : Prop := sc.names.lookup x = some .local ∨ sc.names.lookup x = some .cell ∨ sc.names.lookup x = some .free
def Loc (sc : Scope) (x : Str) : Prop := sc.names.lookup x = some .local ∨ sc.names.lookup x = some .cell
def Look (env : Env) (h : Heap) (m : Str → Option Value) (x : Str) (u : Value) : Prop :=
  (env.kindOf x = some .local ∧ m x = some u) ∨ ((env.kindOf x = some .cell ∨ env.kindOf x = some .free) ∧ ∃ c, env.cells.lookup x = some c ∧ h.IsCell c (some u))
structure Cx.Ok (X : Cx) : Prop where
  mod : Mod X.K X.mg X.base
  kind : X.env.scope.kind = .function
  glob : X.env.globals = mainGlobals
  blt : X.env.builtins = builtinsNs
  above : X.s₀.heap.objs.size ≤ X.env.locals
  inj : ∀ x y c, X.env.cells.lookup x = some c → X.env.cells.lookup y = some c → x = y
  has : ∀ x, (X.env.kindOf x = some .cell ∨ X.env.kindOf x = some .free) → ∃ c, X.env.cells.lookup x = some c
  cab : ∀ x c, X.fn x = true → X.env.cells.lookup x = some c → X.s₀.heap.objs.size ≤ c
  hd : X.calm = true → X.A.handled = none
  frames : X.A.frames = some X.stack
  stk : X.stack = X.outer ∨ (X.stack = X.env :: X.outer ∧ X.env.frame = some X.env.locals)
  exf : ∀ b ∈ X.ex, b ≠ X.env.locals ∧ ∀ x c, X.env.cells.lookup x = some c → c ≠ b
  bs : ∀ b o, X.base.get? b = some o → X.s₀.heap.get? b = some o ∧ X.H₀ b = none
  bsz : X.base.objs.size ≤ X.s₀.heap.objs.size
  noex : ∀ b o, X.base.get? b = some o → b ∉ X.ex
  exfs : ∀ b ∈ X.ex, b ∉ X.fs
  funs : X.s₀.heap.FunFrames X.base X.outer
  frf : ∀ b ∈ X.fs, X.H₀ b = none
structure Inv (X : Cx) (pins : List (Addr × Obj)) (σ : List (Option V)) (H : Hp) (s : Shared) : Prop where
  ok : X.Ok
  os : s.os = X.s₀.os
  bare : AllBare s.gens
  base : Un X.fs X.ex X.H₀ H X.s₀.heap s.heap
  loc : ∃ m, s.heap.Ns X.env.locals m ∧ ∀ (i : Nat) (x : Str) (v : V), X.N[i]? = some x → σ[i]? = some (some v) → Vis X.env.scope x → ∃ u, RelV v u ∧ Look X.env s.heap m x u
  cell : ∀ x c, X.env.cells.lookup x = some c → ∃ v, s.heap.IsCell c v
  free : H X.env.locals = none
  freeC : ∀ x c, X.env.cells.lookup x = some c → H c = none
  pin : ∀ p ∈ X.pn ++ pins, s.heap.get? p.1 = some p.2 ∧ H p.1 = none ∧ p.1 ≠ X.env.locals ∧ p.1 ∉ X.fs ∧ ∀ v, p.2.data ≠ .cell v
  hok : HOk X.prog X.w H s.heap
  len : σ.length = X.N.length
section
variable {X : Cx} {pins : List (Addr × Obj)} {σ : List (Option V)} {H H' : Hp} {s : Shared} {h' : Heap}
theorem Cx.Ok.nofr (ok : X.Ok) {b : Addr} {o : Obj} (e : X.base.get? b = some o) : b ∉ X.fs := fun hb => by
  have := (ok.funs.mem hb).1
  rw [e] at this; cases this
theorem Inv.bs (I : Inv X pins σ H s) : ∀ b o, X.base.get? b = some o → s.heap.get? b = some o ∧ H b = none := fun b o e =>
  ⟨I.base.keep b o (I.ok.bs b o e).1 (I.ok.bs b o e).2 (I.ok.nofr e) (I.ok.noex b o e), I.base.free b o (I.ok.bs b o e).1 (I.ok.bs b o e).2 (I.ok.noex b o e)⟩
theorem Inv.bk (I : Inv X pins σ H s) : ∀ b o, X.base.get? b = some o → s.heap.get? b = some o := fun b o e => (I.bs b o e).1
theorem Inv.mod (I : Inv X pins σ H s) : Mod X.K X.mg X.base := I.ok.mod
theorem Inv.kIn (I : Inv X pins σ H s) : X.K.In s.heap := I.ok.mod.kin.keeps I.bk
theorem Inv.nolimit (I : Inv X pins σ H s) : s.heap.NoLimit := I.ok.mod.nolimit.keeps I.bk
theorem Inv.fr (I : Inv X pins σ H s) : ∃ m, Fr X.base X.env.locals s.heap m :=
  let ⟨m, hn, _⟩ := I.loc
  ⟨m, hn, I.bk, Nat.le_trans I.ok.bsz I.ok.above⟩
theorem Inv.lt (I : Inv X pins σ H s) : X.env.locals < s.heap.objs.size := let ⟨_, hn, _⟩ := I.loc; hn.lt
theorem Inv.sz (I : Inv X pins σ H s) : X.s₀.heap.objs.size ≤ s.heap.objs.size := Nat.le_trans I.ok.above (Nat.le_of_lt I.lt)
theorem Inv.nofs (I : Inv X pins σ H s) {a : Addr} (h : s.heap.objs.size ≤ a) : a ∉ X.fs := fun hb => by
  obtain ⟨_, o, ho, _⟩ := I.ok.funs.mem hb
  exact absurd (Nat.lt_of_lt_of_le (Heap.lt_size ho) (Nat.le_trans I.sz h)) (Nat.lt_irrefl _)
theorem Inv.cne (I : Inv X pins σ H s) : ∀ x c, X.env.cells.lookup x = some c → c ≠ X.env.locals := fun x c e z => by
  obtain ⟨v, o, ho, hd⟩ := I.cell x c e
  obtain ⟨m, ⟨o', es, ep, ho', hd', _⟩, _⟩ := I.loc
  rw [z, ho'] at ho; cases ho; rw [hd'] at hd; cases hd
theorem Inv.funs (I : Inv X pins σ H s) : s.heap.FunFrames X.base X.outer := by
  have all : ∀ (l : List Env), (∀ b ∈ frs l, b ∈ X.fs) → X.s₀.heap.FunFrames X.base l → s.heap.FunFrames X.base l := by
    intro l
    induction l with
    | nil => intro _ _; trivial
    | cons env r ih =>
      intro hs hl
      obtain ⟨hk, ⟨L, o, hf, hn, ho, hd⟩, hr⟩ := hl
      have hL : L ∈ X.fs := hs L (by unfold frs; rw [List.filterMap_cons, hf]; exact List.mem_cons_self)
      obtain ⟨sl, e⟩ := I.base.slot L o ho (I.ok.frf L hL) hL fun z => I.ok.exfs L z hL
      exact ⟨hk, ⟨L, _, hf, hn, e, hd⟩, ih (fun b hb => hs b (by unfold frs; rw [List.filterMap_cons, hf]; exact List.mem_cons_of_mem _ hb)) hr⟩
  exact all X.outer (fun _ hb => hb) I.ok.funs
theorem Inv.stack (I : Inv X pins σ H s) : s.heap.FunFrames X.base X.stack := by
  rcases I.ok.stk with e | ⟨e, hf⟩
  · rw [e]; exact I.funs
  · rw [e]
    obtain ⟨m, hn, _⟩ := I.loc
    refine .cons (by rw [I.ok.kind]; decide) hf hn ?_ I.funs
    exact Heap.get?_none_of_le (Nat.le_trans I.ok.bsz I.ok.above)
theorem Inv.stkSub (I : Inv X pins σ H s) : ∀ b ∈ frs X.stack, b ∈ X.env.locals :: X.fs := fun b hb => by
  rcases I.ok.stk with e | ⟨e, hf⟩
  · rw [e] at hb; exact List.mem_cons_of_mem _ hb
  · rw [e] at hb
    unfold frs at hb
    rw [List.filterMap_cons, hf] at hb
    exact hb
theorem Inv.stkFree (I : Inv X pins σ H s) : ∀ b ∈ frs X.stack, H b = none := fun b hb => by
  rcases List.mem_cons.mp (I.stkSub b hb) with e | hb
  · rw [e]; exact I.free
  · obtain ⟨_, o, ho, _⟩ := I.ok.funs.mem hb
    exact I.base.free b o ho (I.ok.frf b hb) fun z => I.ok.exfs b z hb
theorem Inv.step {g' : Array GenState} {t' : Nat} {d' : Drawn} {ch : List Addr} (I : Inv X pins σ H s)
    (hch : ∀ b ∈ ch, (b ∈ X.ex ∨ X.s₀.heap.objs.size ≤ b) ∧ b ≠ X.env.locals ∧ (∀ x c, X.env.cells.lookup x = some c → c ≠ b) ∧ ∀ p ∈ X.pn ++ pins, p.1 ≠ b)
    (keep : ∀ b o, b ≠ X.env.locals → b ∉ X.fs → b ∉ ch → s.heap.get? b = some o → H b = none → h'.get? b = some o)
    (slot : ∀ b o, b ≠ X.env.locals → b ∈ X.fs → b ∉ ch → s.heap.get? b = some o → H b = none → ∃ sl, h'.get? b = some { o with slots := sl }) (free : ∀ b o, b ∉ ch → s.heap.get? b = some o → H b = none → H' b = none)
    (there : ∀ b o, b ∉ ch → s.heap.get? b = some o → ∃ o', h'.get? b = some o')
    (tups : ∀ b xs, H b = some (.tup xs) → H' b = some (.tup xs)) (frzs : ∀ b o u, H b = some (.frz o u) → H' b = some (.frz o u)) (tbls : ∀ b ps, H b = some (.tbl ps) → ∃ more, H' b = some (.tbl (ps ++ more)))
    (ns : ∀ m, s.heap.Ns X.env.locals m → h'.Ns X.env.locals m) (hok : HOk X.prog X.w H' h') (hg : AllBare g') :
    Inv X pins σ H' { s with heap := h', gens := g', drawn := d', toks := t' } := by
  have neL : ∀ b o, X.s₀.heap.get? b = some o → b ≠ X.env.locals := fun b o e => Nat.ne_of_lt (Nat.lt_of_lt_of_le (Heap.lt_size e) I.ok.above)
  have neC : ∀ b o, X.s₀.heap.get? b = some o → b ∉ X.ex → b ∉ ch := fun b o e hx hb => by
    rcases (hch b hb).1 with z | z
    · exact hx z
    · exact absurd (Nat.lt_of_lt_of_le (Heap.lt_size e) z) (Nat.lt_irrefl _)
  have cellK : ∀ x c, X.env.cells.lookup x = some c → ∀ v, s.heap.IsCell c v → h'.IsCell c v := fun x c e v ⟨o, ho, hd⟩ => by
    have nch : c ∉ ch := fun z => (hch c z).2.2.1 x c e rfl
    by_cases hc : c ∈ X.fs
    · obtain ⟨sl, q⟩ := slot c o (I.cne x c e) hc nch ho (I.freeC x c e)
      exact ⟨_, q, hd⟩
    · exact ⟨o, keep c o (I.cne x c e) hc nch ho (I.freeC x c e), hd⟩
  refine ⟨I.ok, I.os, hg, ⟨fun b o e n hb hx => ?_, fun b o e n hb hx => ?_, fun b o e n hx => ?_, fun b o e hx => ?_, fun b xs e => tups b xs (I.base.tups b xs e), fun b o xs e => frzs b o xs (I.base.frzs b o xs e), fun b ps e => ?_⟩, ?_, fun x c e => ?_, ?_, fun x c e => ?_, fun p hp => ?_, hok, I.len⟩
  · exact keep b o (neL b o e) hb (neC b o e hx) (I.base.keep b o e n hb hx) (I.base.free b o e n hx)
  · obtain ⟨sl, e1⟩ := I.base.slot b o e n hb hx
    obtain ⟨sl', e2⟩ := slot b _ (neL b o e) hb (neC b o e hx) e1 (I.base.free b o e n hx)
    exact ⟨sl', e2⟩
  · obtain ⟨o', e1⟩ := I.base.there b o e hx
    exact free b o' (neC b o e hx) e1 (I.base.free b o e n hx)
  · obtain ⟨o', e1⟩ := I.base.there b o e hx
    exact there b o' (neC b o e hx) e1
  · obtain ⟨m1, e1⟩ := I.base.tbls b ps e
    obtain ⟨m2, e2⟩ := tbls b _ e1
    exact ⟨m1 ++ m2, by rw [e2, Array.append_assoc]⟩
  · obtain ⟨m, hn, hl⟩ := I.loc
    refine ⟨m, ns m hn, fun i x v e1 e2 e3 => ?_⟩
    obtain ⟨u, r, l⟩ := hl i x v e1 e2 e3
    refine ⟨u, r, ?_⟩
    rcases l with l | ⟨k, c, e, z⟩
    · exact .inl l
    · exact .inr ⟨k, c, e, cellK x c e _ z⟩
  · obtain ⟨v, z⟩ := I.cell x c e
    exact ⟨v, cellK x c e v z⟩
  · obtain ⟨m, ⟨o, _, _, ho, _⟩, _⟩ := I.loc
    exact free _ o (fun z => (hch _ z).2.1 rfl) ho I.free
  · obtain ⟨v, o, ho, hd⟩ := I.cell x c e
    exact free c o (fun z => (hch c z).2.2.1 x c e rfl) ho (I.freeC x c e)
  · obtain ⟨e, n, ne, nf, d⟩ := I.pin p hp
    have nch : p.1 ∉ ch := fun z => (hch p.1 z).2.2.2 p hp rfl
    exact ⟨keep p.1 p.2 ne nf nch e n, free p.1 p.2 nch e n, ne, nf, d⟩
theorem Inv.un {t' : Nat} (I : Inv X pins σ H s) (u : Un X.fs [] H H' s.heap h') (hok : HOk X.prog X.w H' h') : Inv X pins σ H' { s with heap := h', toks := t' } := by
  obtain ⟨m, ⟨o, es, ep, ho, r⟩, _⟩ := id I.loc
  obtain ⟨sl, hL⟩ := u.any ho I.free (by simp)
  exact I.step (g' := s.gens) (d' := s.drawn) (ch := []) (fun _ z => nomatch z) (fun b o _ hb _ e n => u.keep b o e n hb (by simp)) (fun b o _ hb _ e n => u.slot b o e n hb (by simp)) (fun b o _ e n => u.free b o e n (by simp)) (fun b o _ e => u.there b o e (by simp)) u.tups u.frzs u.tbls (fun m' hm => by
    obtain ⟨o', es', ep', ho', r'⟩ := hm
    rw [ho] at ho'; cases ho'
    exact ⟨_, es', ep', hL, r'⟩) hok I.bare
theorem Inv.call {g' : Array GenState} {t' : Nat} {d' : Drawn} {ch : List Addr} (I : Inv X pins σ H s) (u : Un (frs X.stack) ch H H' s.heap h') (hok : HOk X.prog X.w H' h') (hg : AllBare g')
    (hch : ∀ b ∈ ch, (b ∈ X.ex ∨ X.s₀.heap.objs.size ≤ b) ∧ b ≠ X.env.locals ∧ (∀ x c, X.env.cells.lookup x = some c → c ≠ b) ∧ ∀ p ∈ X.pn ++ pins, p.1 ≠ b) :
    Inv X pins σ H' { s with heap := h', gens := g', drawn := d', toks := t' } := by
  obtain ⟨m, ⟨o, es, ep, ho, r⟩, _⟩ := id I.loc
  obtain ⟨sl, hL⟩ := u.any ho I.free fun z => (hch _ z).2.1 rfl
  exact I.step (ch := ch) hch (fun b o hL hb hc e n => u.keep b o e n (fun z => (List.mem_cons.mp (I.stkSub b z)).elim hL hb) hc) (fun b o _ _ hc e n => u.any e n hc) (fun b o hc e n => u.free b o e n hc) (fun b o hc e => u.there b o e hc) u.tups u.frzs u.tbls (fun m' hm => by
    obtain ⟨o', es', ep', ho', r'⟩ := hm
    rw [ho] at ho'; cases ho'
    exact ⟨_, es', ep', hL, r'⟩) hok hg
theorem Inv.turned {t' : Nat} {it : Addr} (I : Inv X pins σ H s) (k : ∀ b o, b ≠ it → s.heap.get? b = some o → h'.get? b = some o) (hn : H it = none) (hL : it ≠ X.env.locals)
    (h1 : it ∈ X.ex ∨ X.s₀.heap.objs.size ≤ it) (h2 : ∀ x c, X.env.cells.lookup x = some c → c ≠ it) (h3 : ∀ p ∈ X.pn ++ pins, p.1 ≠ it) : Inv X pins σ H { s with heap := h', toks := t' } := by
  have nit : ∀ b u, H b = some u → b ≠ it := fun b u e z => by rw [z, hn] at e; cases e
  refine I.step (g' := s.gens) (d' := s.drawn) (ch := [it]) (fun b hb => ?_) (fun b o _ _ hc e _ => k b o (fun z => hc (by simp [z])) e) (fun b o _ _ hc e _ => ⟨o.slots, k b o (fun z => hc (by simp [z])) e⟩) (fun _ _ _ _ n => n)
    (fun b o hc e => ⟨o, k b o (fun z => hc (by simp [z])) e⟩) (fun _ _ e => e) (fun _ _ _ e => e) (fun b ps e => ⟨#[], by rw [e]; simp⟩) (fun m hm => ?_) (fun b u e => ?_) I.bare
  · have e : b = it := by simpa using hb
    subst e
    exact ⟨h1, hL, h2, h3⟩
  · obtain ⟨o, es, ep, ho, r⟩ := hm
    exact ⟨o, es, ep, k _ o (Ne.symm hL) ho, r⟩
  · refine (I.hok b u e).stay (fun c v hc q => k c v ?_ q) (fun _ q => q) (fun _ _ q => q) fun _ _ _ q => q
    rcases hc with z | z
    · rw [z]; exact nit b u e
    · exact nit c _ z
theorem Inv.tok (I : Inv X pins σ H s) (t : Nat) : Inv X pins σ H { s with toks := t } := I.un (h' := s.heap) (t' := t) Un.refl I.hok
theorem Inv.kept {t' : Nat} (I : Inv X pins σ H s) (k : ∀ b u, s.heap.get? b = some u → h'.get? b = some u) : Inv X pins σ H { s with heap := h', toks := t' } := I.un (Un.kept k) (I.hok.kept k)
theorem Inv.laid {a : Addr} {o : HO} {t' : Nat} (I : Inv X pins σ H s) (k : ∀ b u, s.heap.get? b = some u → h'.get? b = some u) (hp : s.heap.objs.size ≤ a) (new : ObjOk X.prog X.w (upd H a o) h' a o) :
    Inv X pins σ (upd H a o) { s with heap := h', toks := t' } := I.un (Un.laid k hp (I.hok.fresh hp)) (I.hok.laid k hp new)
theorem Inv.write {x e : Addr} {o : HO} {t' : Nat} (I : Inv X pins σ H s) (mu : Mut (H x)) (he : e = x ∨ H e = some (.own x)) (k : ∀ b u, b ≠ e → s.heap.get? b = some u → h'.get? b = some u) (heo : ∃ u, h'.get? e = some u)
    (new : ObjOk X.prog X.w (upd H x o) h' x o) : Inv X pins σ (upd H x o) { s with heap := h', toks := t' } := I.un (Un.write mu he k heo) (I.hok.write mu he k heo new)
theorem Inv.pins_of {pins' : List (Addr × Obj)} (I : Inv X pins σ H s) (h : ∀ p ∈ pins', s.heap.get? p.1 = some p.2 ∧ H p.1 = none ∧ p.1 ≠ X.env.locals ∧ p.1 ∉ X.fs ∧ ∀ v, p.2.data ≠ .cell v) : Inv X pins' σ H s :=
  ⟨I.ok, I.os, I.bare, I.base, I.loc, I.cell, I.free, I.freeC, fun p hp => (List.mem_append.mp hp).elim (fun z => I.pin p (List.mem_append_left _ z)) (h p), I.hok, I.len⟩
theorem nodup_ix {N : List Str} (hN : N.Nodup) {i j : Nat} {x : Str} (a : N[i]? = some x) (b : N[j]? = some x) : i = j := by
  obtain ⟨h1, e1⟩ := List.getElem?_eq_some_iff.mp a
  obtain ⟨h2, e2⟩ := List.getElem?_eq_some_iff.mp b
  exact (List.getElem_inj hN).mp (e1.trans e2.symm)
theorem store_ok2 {M : Model} {A : Around} {E : Value → Shared → Prop} {i : Nat} {x : Str} {v : V} {u : Value} {Q : Unit → Shared → Prop} (I : Inv X pins σ H s) (hN : X.N.Nodup) (hi : X.N[i]? = some x) (hx : Loc X.env.scope x) (r : RelV v u)
    (h : ∀ s', Inv X pins (σ.set i (some v)) H s' → (∃ a, Heap.SameBut a s.heap s'.heap ∧ (a = X.env.locals ∨ X.env.cells.lookup x = some a)) → Q () s') (hf : X.fn x = true ∨ X.env.scope.names.lookup x = some .local := by first | exact .inl rfl | exact .inr rfl | assumption) : wpAny M A (storeName X.env x u) Q E s := by
  obtain ⟨m, hn, hl⟩ := id I.loc
  have hcls : (X.env.scope.kind == .class || (X.env.scope.kind == .module && X.env.locals != X.env.globals)) = false := by rw [I.ok.kind]; rfl
  have hiσ : i < σ.length := by rw [I.len]; exact (List.getElem?_eq_some_iff.mp hi).1
  have cne := I.cne
  have tracked : ∀ {a : Addr} {h' : Heap}, (∃ o, s.heap.get? a = some o ∧ H a = none) → Heap.SameBut a s.heap h' → HOk X.prog X.w H h' := fun {a h'} ha hs b ob e => by
    obtain ⟨_, _, hfree⟩ := ha
    refine (I.hok b ob e).stay (fun c w' hc q => (hs.2 c ?_).trans q) (fun _ q => q) (fun _ _ q => q) fun _ _ _ q => q
    rintro rfl
    rcases hc with rfl | hc
    · rw [hfree] at e; cases e
    · rw [hfree] at hc; cases hc
  rcases hx with hk | hk
  · refine wpAny_storeName_local hk hn (fun h' hn' hs => ?_) hcls
    obtain ⟨oL, _, _, hoL, _⟩ := id hn
    refine h _ ⟨I.ok, I.os, I.bare, ⟨fun b o e n hb hx => ?_, fun b o e n hb hx => ?_, I.base.free, fun b o e hx => ?_, I.base.tups, I.base.frzs, I.base.tbls⟩, ⟨_, hn', fun j y v' e1 e2 e3 => ?_⟩, fun y c e => ?_, I.free, I.freeC, fun p hp => ?_, tracked ⟨oL, hoL, I.free⟩ hs, by simpa using I.len⟩ ⟨_, hs, .inl rfl⟩
    · exact (hs.2 b (Nat.ne_of_lt (Nat.lt_of_lt_of_le (Heap.lt_size e) I.ok.above))).trans (I.base.keep b o e n hb hx)
    · obtain ⟨sl, e1⟩ := I.base.slot b o e n hb hx
      exact ⟨sl, (hs.2 b (Nat.ne_of_lt (Nat.lt_of_lt_of_le (Heap.lt_size e) I.ok.above))).trans e1⟩
    · obtain ⟨o', e1⟩ := I.base.there b o e hx
      exact ⟨o', (hs.2 b (Nat.ne_of_lt (Nat.lt_of_lt_of_le (Heap.lt_size e) I.ok.above))).trans e1⟩
    · by_cases hj : j = i
      · subst hj
        rw [hi] at e1; cases e1
        rw [List.getElem?_set_self hiσ] at e2
        cases e2
        exact ⟨u, r, .inl ⟨hk, by simp⟩⟩
      · rw [List.getElem?_set_ne (Ne.symm hj)] at e2
        obtain ⟨u', r', q⟩ := hl j y v' e1 e2 e3
        refine ⟨u', r', ?_⟩
        rcases q with ⟨k, e⟩ | ⟨k, c, e, z⟩
        · refine .inl ⟨k, ?_⟩
          have : y ≠ x := fun e => hj (nodup_ix hN e1 (e ▸ hi))
          simp [this, e]
        · exact .inr ⟨k, c, e, z.sameBut hs (cne y c e)⟩
    · obtain ⟨w', z⟩ := I.cell y c e
      exact ⟨w', z.sameBut hs (cne y c e)⟩
    · obtain ⟨e, n, ne, nf, d⟩ := I.pin p hp
      exact ⟨(hs.2 p.1 ne).trans e, n, ne, nf, d⟩
  · have hfn : X.fn x = true := by
      rcases hf with z | z
      · exact z
      · rw [z] at hk; cases hk
    obtain ⟨c, hc⟩ := I.ok.has x (.inl hk)
    obtain ⟨w', z⟩ := I.cell x c hc
    refine wpAny_storeName_cell I.ok.kind hk hc z (fun h' hc' hs => ?_)
    obtain ⟨oc, hoc, hocd⟩ := id z
    refine h { s with heap := h' } ⟨I.ok, I.os, I.bare, ⟨fun b o e n hb hx => ?_, fun b o e n hb hx => ?_, I.base.free, fun b o e hx => ?_, I.base.tups, I.base.frzs, I.base.tbls⟩, ⟨m, hn.sameBut hs (Ne.symm (cne x c hc)), fun j y v' e1 e2 e3 => ?_⟩, fun y c' e => ?_, I.free, I.freeC, fun p hp => ?_, tracked ⟨oc, hoc, I.freeC x c hc⟩ hs, by simpa using I.len⟩ ⟨c, hs, .inr hc⟩
    · exact (hs.2 b (Nat.ne_of_lt (Nat.lt_of_lt_of_le (Heap.lt_size e) (I.ok.cab x c hfn hc)))).trans (I.base.keep b o e n hb hx)
    · obtain ⟨sl, e1⟩ := I.base.slot b o e n hb hx
      exact ⟨sl, (hs.2 b (Nat.ne_of_lt (Nat.lt_of_lt_of_le (Heap.lt_size e) (I.ok.cab x c hfn hc)))).trans e1⟩
    · obtain ⟨o', e1⟩ := I.base.there b o e hx
      exact ⟨o', (hs.2 b (Nat.ne_of_lt (Nat.lt_of_lt_of_le (Heap.lt_size e) (I.ok.cab x c hfn hc)))).trans e1⟩
    · by_cases hj : j = i
      · subst hj
        rw [hi] at e1; cases e1
        rw [List.getElem?_set_self hiσ] at e2
        cases e2
        exact ⟨u, r, .inr ⟨.inl hk, c, hc, hc'⟩⟩
      · rw [List.getElem?_set_ne (Ne.symm hj)] at e2
        obtain ⟨u', r', q⟩ := hl j y v' e1 e2 e3
        refine ⟨u', r', ?_⟩
        rcases q with q | ⟨k, c', e, z'⟩
        · exact .inl q
        · refine .inr ⟨k, c', e, z'.sameBut hs ?_⟩
          rintro rfl
          exact hj (nodup_ix hN e1 (I.ok.inj _ _ _ e hc ▸ hi))
    · by_cases hcc : c' = c
      · subst hcc; exact ⟨_, hc'⟩
      · obtain ⟨w2, z2⟩ := I.cell y c' e
        exact ⟨w2, z2.sameBut hs hcc⟩
    · obtain ⟨e, n, ne, nf, d⟩ := I.pin p hp
      refine ⟨(hs.2 p.1 ?_).trans e, n, ne, nf, d⟩
      intro q
      rw [q, hoc] at e
      have q' : oc = p.2 := Option.some.inj e
      exact d w' (by rw [← q']; exact hocd)
theorem store_ok {M : Model} {A : Around} {E : Value → Shared → Prop} {i : Nat} {x : Str} {v : V} {u : Value} {Q : Unit → Shared → Prop} (I : Inv X pins σ H s) (hN : X.N.Nodup) (hi : X.N[i]? = some x) (hx : Loc X.env.scope x) (r : RelV v u)
    (h : ∀ s', Inv X pins (σ.set i (some v)) H s' → Q () s') (hf : X.fn x = true ∨ X.env.scope.names.lookup x = some .local := by first | exact .inl rfl | exact .inr rfl | assumption) : wpAny M A (storeName X.env x u) Q E s :=
  store_ok2 I hN hi hx r (fun s' I' _ => h s' I') hf
theorem Inv.call' {s' : Shared} {ch : List Addr} (I : Inv X pins σ H s) (ho : s'.os = s.os) (u : Un (frs X.stack) ch H H' s.heap s'.heap) (hok : HOk X.prog X.w H' s'.heap) (hg : AllBare s'.gens)
    (hch : ∀ b ∈ ch, (b ∈ X.ex ∨ X.s₀.heap.objs.size ≤ b) ∧ b ≠ X.env.locals ∧ (∀ x c, X.env.cells.lookup x = some c → c ≠ b) ∧ ∀ p ∈ X.pn ++ pins, p.1 ≠ b) : Inv X pins σ H' s' := by
  obtain ⟨h', g', d', t', o'⟩ := s'
  have e : o' = s.os := ho
  subst e
  exact I.call (g' := g') (t' := t') (d' := d') u hok hg hch
end
abbrev XK := Value → Option Addr → Hp → Prop
abbrev St := List (Option V)
abbrev VK := V → Hp → Prop
abbrev TE := St → Hp → VK → Prop
abbrev TT := St → Hp → (Bool → Hp → Prop) → Prop
abbrev TA := St → Hp → (List V → Hp → Prop) → Prop
structure Ends where
  nx : St → Hp → Prop
  rt : VK
  bk : St → Hp → Prop := fun _ _ => False
  ct : St → Hp → Prop := fun _ _ => False
abbrev TS := Ends → St → Hp → Prop
def EP (X : Cx) (pins : List (Addr × Obj)) (σ : St) (Q : VK) (u : Value) (s' : Shared) : Prop := ∃ v H', Inv X pins σ H' s' ∧ RelV v u ∧ Q v H'
def TP (X : Cx) (pins : List (Addr × Obj)) (σ : St) (Q : Bool → Hp → Prop) (b : Bool) (s' : Shared) : Prop := ∃ H', Inv X pins σ H' s' ∧ Q b H'
def AP (X : Cx) (pins : List (Addr × Obj)) (σ : St) (Q : List V → Hp → Prop) (us : List Value) (s' : Shared) : Prop := ∃ vs H', Inv X pins σ H' s' ∧ Vals vs us ∧ Q vs H'
def SP (X : Cx) (pins : List (Addr × Obj)) (D : Ends) (f : Flow) (s' : Shared) : Prop :=
  match f with
  | .next => ∃ σ' H', Inv X pins σ' H' s' ∧ D.nx σ' H'
  | .brk => ∃ σ' H', Inv X pins σ' H' s' ∧ D.bk σ' H'
  | .cont => ∃ σ' H', Inv X pins σ' H' s' ∧ D.ct σ' H'
  | .ret u => ∃ v σ' H', Inv X pins σ' H' s' ∧ RelV v u ∧ D.rt v H'
def PE (X : Cx) (e : Expr) (t : TE) : Prop :=
  ∀ (pins : List (Addr × Obj)) (s : Shared) (σ : St) (H : Hp) (Q : VK), Inv X pins σ H s → t σ H Q → wpAny (model X.prog X.w) X.A (eval e X.env) (EP X pins σ Q) X.xe s
def PT (X : Cx) (e : Expr) (t : TT) : Prop :=
  ∀ (pins : List (Addr × Obj)) (s : Shared) (σ : St) (H : Hp) (Q : Bool → Hp → Prop), Inv X pins σ H s → t σ H Q → wpAny (model X.prog X.w) X.A (isTrue e X.env (eval e X.env)) (TP X pins σ Q) X.xe s
def PW (X : Cx) (e : Expr) (t : TT) : Prop :=
  ∀ (whole : Sem Value) (pins : List (Addr × Obj)) (s : Shared) (σ : St) (H : Hp) (Q : Bool → Hp → Prop), Inv X pins σ H s → t σ H Q → wpAny (model X.prog X.w) X.A (isTrue e X.env whole) (TP X pins σ Q) X.xe s
theorem PW.pt {X : Cx} {e : Expr} {t : TT} (h : PW X e t) : PT X e t := h _
def PA (X : Cx) (es : List Expr) (t : TA) : Prop :=
  ∀ (pos : Pos) (pins : List (Addr × Obj)) (s : Shared) (σ : St) (H : Hp) (Q : List V → Hp → Prop), Inv X pins σ H s → t σ H Q → wpAny (model X.prog X.w) X.A (spliced (backTo pos (starEach es X.env))) (AP X pins σ Q) X.xe s
def PS (X : Cx) (st : Stmt) (t : TS) : Prop :=
  ∀ (pins : List (Addr × Obj)) (s : Shared) (σ : St) (H : Hp) (D : Ends), Inv X pins σ H s → t D σ H → wpAny (model X.prog X.w) X.A (exec st X.env) (SP X pins D) X.xe s
def PSs (X : Cx) (st : List Stmt) (t : TS) : Prop :=
  ∀ (pins : List (Addr × Obj)) (s : Shared) (σ : St) (H : Hp) (D : Ends), Inv X pins σ H s → t D σ H → wpAny (model X.prog X.w) X.A (execs st X.env) (SP X pins D) X.xe s
theorem thn {α : Type} {t : Sem α} {Q Q' : α → Shared → Prop} {M : Model} {A : Around} {E : Value → Shared → Prop} {s : Shared} (h : wpAny M A t Q E s) (hQ : ∀ a s, Q a s → Q' a s) : wpAny M A t Q' E s := wpAny_mono h hQ fun _ _ x => x
end L2
namespace L2
open PySem PySem.Spec PyProof.Rows
section
variable {X : Cx}
def tVar (i : Nat) : TE := fun σ H Q => ∃ v, σ[i]? = some (some v) ∧ Q v H
def tC (v : V) : TE := fun _ H Q => Q v H
theorem pe_var {i : Nat} {x : Str} {pos : Pos} (hN : X.N[i]? = some x) (hv : Vis X.env.scope x) (hd : (x == ("__debug__" : Str)) = false := by decide) (hcd : (x == ("__classdict__" : Str)) = false := by decide) : PE X (.Name x pos) (tVar i) := by
  intro pins s σ H Q I h
  obtain ⟨v, e, h⟩ := h
  obtain ⟨m, hn, hl⟩ := I.loc
  obtain ⟨u, r, l⟩ := hl i x v hN e hv
  have fin : EP X pins σ Q u s := ⟨v, H, I, r, h⟩
  rcases l with ⟨hk, hm⟩ | ⟨hk, c, hc, hcell⟩
  · exact wpAny_Name (wpAny_loadName_local I.ok.kind hk hn hm fin) hd
  · rcases hk with hk | hk
    · exact wpAny_Name (wpAny_loadName_cell I.ok.kind hk hc hcell fin) hd
    · exact wpAny_Name (wpAny_loadName_free I.ok.kind hk hc hcell fin hcd) hd
theorem pe_int {i j pos} : PE X (.Constant (.int i) j pos) (tC (.int i)) := fun _ _ _ H _ I h => wpAny_Constant_int ⟨.int i, H, I.tok _, ⟨_, rfl⟩, h⟩
theorem pe_bl {b j pos} : PE X (.Constant (.bool b) j pos) (tC (.bl b)) := fun _ _ _ H _ I h => Constant_bool ⟨.bl b, H, I, rfl, h⟩
theorem pe_non {j pos} : PE X (.Constant .none j pos) (tC .non) := fun _ _ _ H _ I h => Constant_none ⟨.non, H, I, rfl, h⟩
theorem pe_str {x j pos} : PE X (.Constant (.str x) j pos) (tC (.str x)) := fun _ _ _ H _ I h => Calls.Constant_str ⟨.str x, H, I.tok _, ⟨_, rfl⟩, h⟩
def Gl (X : Cx) (x : Str) : Prop := X.env.kindOf x = some .globalImplicit
theorem ld_glob {E : Value → Shared → Prop} {pins : List (Addr × Obj)} {s : Shared} {σ : St} {H : Hp} {x : Str} {u : Value} {pos : Pos} {Q : Value → Shared → Prop} (I : Inv X pins σ H s) (hg : Gl X x) (hm : X.mg x = some u) (h : Q u s)
    (hd : (x == ("__debug__" : Str)) = false := by decide) : wpAny (model X.prog X.w) X.A (eval (.Name x pos) X.env) Q E s :=
  Calls.Name_function_global I.ok.kind hg (Calls.loadGlobal_global (by rw [I.ok.glob]; exact I.mod.glob.keeps I.bk) hm h) hd
theorem ld_blt {E : Value → Shared → Prop} {pins : List (Addr × Obj)} {s : Shared} {σ : St} {H : Hp} {x : Str} {u : Value} {pos : Pos} {Q : Value → Shared → Prop} (I : Inv X pins σ H s) (hg : Gl X x) (hm : X.mg x = none) (hv : bootBuiltins x = some u) (h : Q u s)
    (hn : x ≠ "__name__" := by decide) (hd : (x == ("__debug__" : Str)) = false := by decide) : wpAny (model X.prog X.w) X.A (eval (.Name x pos) X.env) Q E s := by
  obtain ⟨mb, h1, h2⟩ := I.mod.blt
  exact Calls.Name_function_global I.ok.kind hg (Calls.loadGlobal_builtin (by rw [I.ok.glob]; exact I.mod.glob.keeps I.bk) hm (by rw [I.ok.blt]; exact h1.keeps I.bk) ((h2 x hn).trans hv) h) hd
theorem pe_glob {x : Str} {v : V} {u : Value} {pos : Pos} (hg : Gl X x) (hm : X.mg x = some u) (r : RelV v u) (hd : (x == ("__debug__" : Str)) = false := by decide) : PE X (.Name x pos) (tC v) :=
  fun _ _ _ H _ I h => ld_glob I hg hm ⟨v, H, I, r, h⟩ hd
theorem pe_bltn {x : Str} {v : V} {u : Value} {pos : Pos} (hg : Gl X x) (hm : X.mg x = none) (hv : bootBuiltins x = some u) (r : RelV v u) (hn : x ≠ "__name__" := by decide) (hd : (x == ("__debug__" : Str)) = false := by decide) : PE X (.Name x pos) (tC v) :=
  fun _ _ _ H _ I h => ld_blt I hg hm hv ⟨v, H, I, r, h⟩ hn hd
def t2I (ta tb : TE) (k : Int → Int → Hp → Prop) : St → Hp → Prop := fun σ H => ta σ H fun x H1 => tb σ H1 fun y H2 => ∃ i j, x = .int i ∧ y = .int j ∧ k i j H2
def tAdd (ta tb : TE) : TE := fun σ H Q => t2I ta tb (fun i j H2 => Q (.int (i + j)) H2) σ H
def tSub (ta tb : TE) : TE := fun σ H Q => t2I ta tb (fun i j H2 => Q (.int (i - j)) H2) σ H
def tMul (ta tb : TE) : TE := fun σ H Q => t2I ta tb (fun i j H2 => (-(2 ^ 64) < i ∧ i < 2 ^ 64) ∧ Q (.int (i * j)) H2) σ H
variable {a b : Expr} {ta tb : TE} {pos : Pos}
def PC (X : Cx) (op : CmpOp) (a b : Expr) (t : TE) : Prop :=
  ∀ (pins : List (Addr × Obj)) (s : Shared) (σ : St) (H : Hp) (Q : VK), Inv X pins σ H s → t σ H Q →
    wpAny (model X.prog X.w) X.A (eval a X.env) (fun v s₁ => wpAny (model X.prog X.w) X.A (eval b X.env) (fun u s₂ => wpAny (model X.prog X.w) X.A (compareOp op v u) (EP X pins σ Q) X.xe s₂) X.xe s₁) X.xe s
theorem nobehind (b : Expr) {op : CmpOp} (h : op ≠ .In) (h2 : op ≠ .NotIn) : behindInMarks op b = false := by
  have e1 : (op == CmpOp.In) = false := by cases op <;> first | rfl | exact absurd rfl h
  have e2 : (op == CmpOp.NotIn) = false := by cases op <;> first | rfl | exact absurd rfl h2
  cases b <;> simp [behindInMarks, e1, e2]
def tCmp (p : Int → Int → Bool) (ta tb : TE) : TE := fun σ H Q => t2I ta tb (fun i j H2 => Q (.bl (p i j)) H2) σ H
abbrev tLt : TE → TE → TE := tCmp fun i j => decide (i < j)
abbrev tLe : TE → TE → TE := tCmp fun i j => decide (i ≤ j)
abbrev tGt : TE → TE → TE := tCmp fun i j => decide (j < i)
abbrev tGe : TE → TE → TE := tCmp fun i j => decide (j ≤ i)
abbrev tEqI : TE → TE → TE := tCmp fun i j => decide (i = j)
abbrev tNeI : TE → TE → TE := tCmp fun i j => !decide (i = j)
def tIsN (ta : TE) : TE := fun σ H Q => ta σ H fun x H1 => Q (.bl (decide (x = .non))) H1
def tNotN (ta : TE) : TE := fun σ H Q => ta σ H fun x H1 => Q (.bl (!decide (x = .non))) H1
def tB (t : TE) : TT := fun σ H Q => t σ H fun x H1 => ∃ c, x = .bl c ∧ Q c H1
theorem pt_cmp {op : CmpOp} {t : TE} (h : PC X op a b t) (h1 : behindInMarks op b = false := by first | exact nobehind _ (by decide) (by decide) | rfl) : PT X (.Compare a [op] [b] pos) (tB t) := by
  intro pins s σ H Q I hw
  refine wpAny_isTrue_Compare1 (thn (h pins s σ H _ I hw) fun v s1 h1 => thn h1 fun u s2 h2 => thn h2 fun c s3 ⟨x, H1, I1, r1, q1⟩ => ?_) h1
  obtain ⟨d, rfl, q⟩ := q1
  cases r1
  exact wpAny_truthy_bool ⟨H1, I1, q⟩
theorem pt_val {e : Expr} {t : TE} (h : PE X e t) (he : ∀ whole, isTrue e X.env whole = (do let v ← whole; standAt e.pos; holding [v] (truthy v)) := by intro _; rfl) : PT X e (tB t) := by
  intro pins s σ H Q I hw
  refine isTrue_plain (thn (h pins s σ H _ I hw) fun v s1 ⟨x, H1, I1, r1, q1⟩ => ?_) (he _)
  obtain ⟨d, rfl, q⟩ := q1
  cases r1
  exact wpAny_truthy_bool ⟨H1, I1, q⟩
variable {tA tB' : TT} {rest : List Expr}
def tAnd (t u : TT) : TT := fun σ H Q => t σ H fun c H1 => if c = true then u σ H1 Q else Q false H1
def tOr (t u : TT) : TT := fun σ H Q => t σ H fun c H1 => if c = true then Q true H1 else u σ H1 Q
def tNot (t : TT) : TT := fun σ H Q => t σ H fun c H1 => Q (!c) H1
theorem pw_and1 (ha : PT X a tA) : PW X (.BoolOp .And [a] pos) tA := by
  intro wh pins s σ H Q I h
  refine isTrue_and (thn (ha pins s σ H Q I h) fun c s1 e => ?_)
  cases c with
  | true => exact isTrue_and_nil e
  | false => exact e
theorem pw_or1 (ha : PT X a tA) : PW X (.BoolOp .Or [a] pos) tA := by
  intro wh pins s σ H Q I h
  refine isTrue_or (thn (ha pins s σ H Q I h) fun c s1 e => ?_)
  cases c with
  | false => exact isTrue_or_nil e
  | true => exact e
theorem pw_and (ha : PT X a tA) (hb : PW X (.BoolOp .And (b :: rest) pos) tB') : PW X (.BoolOp .And (a :: b :: rest) pos) (tAnd tA tB') := by
  intro wh pins s σ H Q I h
  refine isTrue_and (thn (ha pins s σ H _ I h) fun c s1 ⟨H1, I1, q1⟩ => ?_)
  cases c with
  | true => exact hb wh pins s1 σ H1 Q I1 q1
  | false => exact ⟨H1, I1, q1⟩
theorem pw_or (ha : PT X a tA) (hb : PW X (.BoolOp .Or (b :: rest) pos) tB') : PW X (.BoolOp .Or (a :: b :: rest) pos) (tOr tA tB') := by
  intro wh pins s σ H Q I h
  refine isTrue_or (thn (ha pins s σ H _ I h) fun c s1 ⟨H1, I1, q1⟩ => ?_)
  cases c with
  | true => exact ⟨H1, I1, q1⟩
  | false => exact hb wh pins s1 σ H1 Q I1 q1
theorem pt_not (ha : PT X a tA) : PT X (.UnaryOp .Not a pos) (tNot tA) := by
  intro pins s σ H Q I h
  exact isTrue_not (ha pins s σ H (fun c H1 => Q (!c) H1) I h)
def tAndV (ta tb : TE) : TE := fun σ H Q => ta σ H fun x H1 => ∃ c, x = .bl c ∧ if c = true then tb σ H1 Q else Q (.bl false) H1
def tOrV (ta tb : TE) : TE := fun σ H Q => ta σ H fun x H1 => ∃ c, x = .bl c ∧ if c = true then Q (.bl true) H1 else tb σ H1 Q
def tNotV (ta : TE) : TE := fun σ H Q => ta σ H fun x H1 => ∃ c, x = .bl c ∧ Q (.bl (!c)) H1
theorem pe_one {op} {t : TE} (h : PE X a t) : PE X (.BoolOp op [a] pos) t := fun pins s σ H Q I hw => BoolOp_one (h pins s σ H Q I hw)
theorem pe_and (ha : PE X a ta) (hb : PE X (.BoolOp .And (b :: rest) pos) tb) : PE X (.BoolOp .And (a :: b :: rest) pos) (tAndV ta tb) := by
  intro pins s σ H Q I h
  refine BoolOp_and (thn (ha pins s σ H _ I h) fun v s1 ⟨x, H1, I1, r1, q1⟩ => ?_)
  obtain ⟨c, rfl, q1⟩ := q1
  cases r1
  refine wpAny_truthy_bool ?_
  cases c with
  | true => exact hb pins s1 σ H1 Q I1 q1
  | false => exact ⟨.bl false, H1, I1, rfl, q1⟩
theorem pe_not (ha : PE X a ta) : PE X (.UnaryOp .Not a pos) (tNotV ta) := by
  intro pins s σ H Q I h
  refine UnaryOp_ (thn (ha pins s σ H _ I h) fun v s1 ⟨x, H1, I1, r1, q1⟩ => ?_)
  obtain ⟨c, rfl, q1⟩ := q1
  cases r1
  exact not_of (wpAny_truthy_bool ⟨.bl (!c), H1, I1, rfl, q1⟩)
def tIf (t : TT) (ta tb : TE) : TE := fun σ H Q => t σ H fun c H1 => if c = true then ta σ H1 Q else tb σ H1 Q
end
end L2
namespace L2
open PySem PySem.Spec PyProof.Rows
def SqL (K : PySem.W.Frag) (H : Hp) (a : Addr) (xs : List V) : Prop :=
  Rd H a (.lst xs) ∨
    ∃ (o : Obj) (its : Array Value) (n : Nat), K.lookup a = some o ∧ o.cls = .type "list" ∧ o.dict = none ∧ o.data = .seq its n ∧ its.size ≤ sizeLine ∧ Vals xs its.toList
def SqT (K : PySem.W.Frag) (H : Hp) (a : Addr) (xs : List V) : Prop :=
  Rd H a (.tup xs) ∨
    ∃ (o : Obj) (its : Array Value) (n : Nat), K.lookup a = some o ∧ o.cls = .type "tuple" ∧ o.data = .seq its n ∧ its.size ≤ sizeLine ∧ Vals xs its.toList
def absV : Value → Option V
  | .none => some .non
  | .bool b => some (.bl b)
  | .int i _ => some (.int i)
  | .str x _ => some (.str x)
  | .bytes b _ => some (.byt b)
  | .float b _ => some (.flt b)
  | .ref a => some (.ref a)
  | .type n => some (.ty n)
  | _ => none
theorem RelV.abs {x : V} {u : Value} (r : RelV x u) : absV u = some x := by
  cases x with
  | non => cases r; rfl
  | bl _ => cases r; rfl
  | int _ => obtain ⟨t, rfl⟩ := r; rfl
  | str _ => obtain ⟨t, rfl⟩ := r; rfl
  | byt _ => obtain ⟨t, rfl⟩ := r; rfl
  | flt _ => obtain ⟨t, rfl⟩ := r; rfl
  | ref _ => cases r; rfl
  | ty _ => cases r; rfl
theorem RelV.inj {x y : V} {u : Value} (r : RelV x u) (q : RelV y u) : x = y := Option.some.inj (r.abs.symm.trans q.abs)
theorem Vals.inj : ∀ {xs ys : List V} {us : List Value}, Vals xs us → Vals ys us → xs = ys
  | _, _, _, .nil, .nil => rfl
  | _, _, _, .cons r t, .cons r' t' => by rw [r.inj r', Vals.inj t t']
section
variable {X : Cx} {pins : List (Addr × Obj)} {σ : St} {H : Hp} {s : Shared} {a : Addr} {xs ys : List V}
theorem SqL.of {K : PySem.W.Frag} (h : H a = some (.lst xs)) : SqL K H a xs := .inl (.inl h)
theorem SqT.of {K : PySem.W.Frag} (h : H a = some (.tup xs)) : SqT K H a xs := .inl (.inl h)
theorem Inv.list (I : Inv X pins σ H s) (h : SqL X.K H a xs) : ∃ its : List Value, Vals xs its ∧ PlainL s.heap a its.toArray ∧ xs.length ≤ sizeLine := by
  rcases h with h | ⟨o, its, n, hk, hc, hd, hs, hz, r⟩
  · obtain ⟨z, its, n, r, e⟩ := h.ok I.hok
    exact ⟨its, r, ⟨_, n, e, rfl, rfl, rfl⟩, z⟩
  · refine ⟨its.toList, r, ⟨o, n, I.kIn a o hk, hc, hd, by simpa using hs⟩, ?_⟩
    have e := r.length
    simp only [Array.length_toList] at e
    omega
theorem Inv.tuple (I : Inv X pins σ H s) (h : SqT X.K H a xs) : ∃ its : List Value, Vals xs its ∧ IsTup s.heap a its.toArray ∧ xs.length ≤ sizeLine := by
  rcases h with h | ⟨o, its, n, hk, hc, hs, hz, r⟩
  · obtain ⟨z, its, r, p⟩ := h.ok I.hok
    exact ⟨its, r, p.tup, z⟩
  · refine ⟨its.toList, r, ⟨o, I.kIn a o hk, hc, n, by simpa using hs⟩, ?_⟩
    have e := r.length
    simp only [Array.length_toList] at e
    omega
theorem Inv.list_inj (I : Inv X pins σ H s) (h : SqL X.K H a xs) (h' : SqL X.K H a ys) : xs = ys := by
  obtain ⟨its, r, ⟨o, n, e, _, _, d⟩, _⟩ := I.list h
  obtain ⟨its', r', ⟨o', n', e', _, _, d'⟩, _⟩ := I.list h'
  rw [e] at e'; cases e'
  rw [d] at d'
  injection d' with d1 _
  have : its = its' := by simpa using congrArg Array.toList d1
  subst this
  exact r.inj r'
theorem Inv.tuple_inj (I : Inv X pins σ H s) (h : SqT X.K H a xs) (h' : SqT X.K H a ys) : xs = ys := by
  obtain ⟨its, r, ⟨o, e, _, n, d⟩, _⟩ := I.tuple h
  obtain ⟨its', r', ⟨o', e', _, n', d'⟩, _⟩ := I.tuple h'
  rw [e] at e'; cases e'
  rw [d] at d'
  injection d' with d1 _
  have : its = its' := by simpa using congrArg Array.toList d1
  subst this
  exact r.inj r'
end
abbrev Cx.wish (X : Cx) (E : Value → Shared → Prop) : Cx := { X with xe := E }
abbrev Cx.nox (X : Cx) : Cx := X.wish fun _ _ => False
theorem Cx.Ok.wish {X : Cx} (ok : X.Ok) (E : Value → Shared → Prop) : (X.wish E).Ok :=
  ⟨ok.mod, ok.kind, ok.glob, ok.blt, ok.above, ok.inj, ok.has, ok.cab, ok.hd, ok.frames, ok.stk, ok.exf, ok.bs, ok.bsz, ok.noex, ok.exfs, ok.funs, ok.frf⟩
theorem Cx.Ok.unwish {X : Cx} {E : Value → Shared → Prop} (ok : (X.wish E).Ok) : X.Ok :=
  ⟨ok.mod, ok.kind, ok.glob, ok.blt, ok.above, ok.inj, ok.has, ok.cab, ok.hd, ok.frames, ok.stk, ok.exf, ok.bs, ok.bsz, ok.noex, ok.exfs, ok.funs, ok.frf⟩
section
variable {X : Cx} {pins : List (Addr × Obj)} {σ : St} {H : Hp} {s : Shared} {E : Value → Shared → Prop}
theorem Inv.wish (I : Inv X pins σ H s) (E : Value → Shared → Prop) : Inv (X.wish E) pins σ H s := ⟨I.ok.wish E, I.os, I.bare, I.base, I.loc, I.cell, I.free, I.freeC, I.pin, I.hok, I.len⟩
theorem Inv.unwish (I : Inv (X.wish E) pins σ H s) : Inv X pins σ H s := ⟨I.ok.unwish, I.os, I.bare, I.base, I.loc, I.cell, I.free, I.freeC, I.pin, I.hok, I.len⟩
theorem SP.unwish {D : Ends} {f : Flow} {s' : Shared} (h : SP (X.wish E) pins D f s') : SP X pins D f s' := by
  cases f with
  | next => obtain ⟨σ', H', I, q⟩ := h; exact ⟨σ', H', I.unwish, q⟩
  | brk => obtain ⟨σ', H', I, q⟩ := h; exact ⟨σ', H', I.unwish, q⟩
  | cont => obtain ⟨σ', H', I, q⟩ := h; exact ⟨σ', H', I.unwish, q⟩
  | ret u => obtain ⟨v, σ', H', I, r, q⟩ := h; exact ⟨v, σ', H', I.unwish, r, q⟩
theorem PE.nox {e : Expr} {t : TE} (h : PE X.nox e t) : PE X e t := fun pins s σ H Q I hw =>
  wpAny_mono (h pins s σ H Q (I.wish _) hw) (fun _ _ ⟨v, H', I', r, q⟩ => ⟨v, H', I'.unwish, r, q⟩) fun _ _ z => False.elim z
theorem PT.nox {e : Expr} {t : TT} (h : PT X.nox e t) : PT X e t := fun pins s σ H Q I hw =>
  wpAny_mono (h pins s σ H Q (I.wish _) hw) (fun _ _ ⟨H', I', q⟩ => ⟨H', I'.unwish, q⟩) fun _ _ z => False.elim z
theorem PSs.nox {st : List Stmt} {t : TS} (h : PSs X.nox st t) : PSs X st t := fun pins s σ H D I hw =>
  wpAny_mono (h pins s σ H D (I.wish _) hw) (fun _ _ q => q.unwish) fun _ _ z => False.elim z
end
section
variable {X : Cx} {st : Stmt} {rest : List Stmt} {t u : TS} {e : Expr} {te : TE} {pos : Pos}
def tNext : TS := fun D σ H => D.nx σ H
def tSeq (t u : TS) : TS := fun D σ H => t { D with nx := u D } σ H
theorem pss_nil : PSs X [] tNext := fun _ _ σ H _ I h => wpAny_execs_nil ⟨σ, H, I, h⟩
theorem pss_cons (h1 : PS X st t) (h2 : PSs X rest u) : PSs X (st :: rest) (tSeq t u) := by
  intro pins s σ H D I h
  refine wpAny_execs_cons (thn (h1 pins s σ H { D with nx := u D } I h) fun f s1 q => ?_)
  cases f with
  | next =>
    obtain ⟨σ', H', I', q⟩ := q
    exact h2 pins s1 σ' H' D I' q
  | ret v => exact q
  | brk => exact q
  | cont => exact q
theorem pss_one (h1 : PS X st t) : PSs X [st] t := by
  intro pins s σ H D I h
  refine wpAny_execs_cons (thn (h1 pins s σ H D I h) fun f s1 q => ?_)
  cases f with
  | next => exact wpAny_execs_nil q
  | ret v => exact q
  | brk => exact q
  | cont => exact q
def tBreak : TS := fun D σ H => D.bk σ H
def tCont : TS := fun D σ H => D.ct σ H
theorem Inv.quiet {pins : List (Addr × Obj)} {σ : St} {H : Hp} {s : Shared} (I : Inv X pins σ H s) : interactive X.env = false := by simp [interactive, I.ok.kind]
def tDrop (te : TE) : TS := fun D σ H => te σ H fun _ H1 => D.nx σ H1
theorem ps_expr (he : PE X e te) (hs : swapsWith e none pos.line X.env = pure false := by rfl) : PS X (.Expr e pos) (tDrop te) := by
  intro pins s σ H D I h
  exact wpAny_Expr_any (thn (he pins s σ H _ I h) fun v s1 ⟨x, H1, I1, r1, q1⟩ => ⟨σ, H1, I1, q1⟩) I.quiet hs
def tRet (te : TE) : TS := fun D σ H => te σ H D.rt
theorem ps_ret (he : PE X e te) : PS X (.Return (some e) pos) (tRet te) := by
  intro pins s σ H D I h
  exact wpAny_Return_some (thn (he pins s σ H _ I h) fun v s1 ⟨x, H1, I1, r1, q1⟩ => ⟨x, σ, H1, I1, r1, q1⟩)
def tRetN : TS := fun D _ H => D.rt .non H
def tIfS (c : TT) (t u : TS) : TS := fun D σ H => c σ H fun b H1 => if b = true then t D σ H1 else u D σ H1
theorem ps_if {c : Expr} {a b : List Stmt} {tc : TT} (hc : PT X c tc) (ha : PSs X a t) (hb : PSs X b u) : PS X (.If c a b pos) (tIfS tc t u) := by
  intro pins s σ H D I h
  refine wpAny_If (thn (hc pins s σ H _ I h) fun d s1 ⟨H1, I1, q1⟩ => ?_)
  cases d with
  | true => exact ha pins s1 σ H1 D I1 q1
  | false => exact hb pins s1 σ H1 D I1 q1
def tNever : TS := fun _ _ _ => False
end
abbrev TG := V → St → Hp → (St → Hp → Prop) → Prop
abbrev TGs := List V → St → Hp → (St → Hp → Prop) → Prop
def PG (X : Cx) (target : Expr) (t : TG) : Prop :=
  ∀ (pins : List (Addr × Obj)) (s : Shared) (σ : St) (H : Hp) (v : V) (u : Value) (Q : St → Hp → Prop), Inv X pins σ H s → RelV v u → t v σ H Q →
    wpAny (model X.prog X.w) X.A (assign target X.env u) (fun _ s' => ∃ σ' H', Inv X pins σ' H' s' ∧ Q σ' H') X.xe s
def PGs (X : Cx) (ts : List Expr) (t : TGs) : Prop :=
  ∀ (pins : List (Addr × Obj)) (s : Shared) (σ : St) (H : Hp) (vs : List V) (us : List Value) (Q : St → Hp → Prop), Inv X pins σ H s → Vals vs us → t vs σ H Q →
    wpAny (model X.prog X.w) X.A (assignInOrder ((assignEach ts X.env).map (·.2)) us) (fun _ s' => ∃ σ' H', Inv X pins σ' H' s' ∧ Q σ' H') X.xe s
abbrev TSet := V → V → V → Hp → (Hp → Prop) → Prop
def PSet (X : Cx) (t : TSet) : Prop :=
  ∀ (pins : List (Addr × Obj)) (s : Shared) (σ : St) (H : Hp) (o i v : V) (ov iv u : Value) (Q : Hp → Prop), Inv X pins σ H s → RelV o ov → RelV i iv → RelV v u → t o i v H Q →
    wpAny (model X.prog X.w) X.A (setItem ov iv u) (fun _ s' => ∃ H', Inv X pins σ H' s' ∧ Q H') X.xe s
abbrev TIp := V → V → Hp → VK → Prop
def PIp (X : Cx) (op : Operator) (t : TIp) : Prop :=
  ∀ (pins : List (Addr × Obj)) (s : Shared) (σ : St) (H : Hp) (x y : V) (v u : Value) (Q : VK), Inv X pins σ H s → RelV x v → RelV y u → t x y H Q →
    wpAny (model X.prog X.w) X.A (inplaceOp op v u) (EP X pins σ Q) X.xe s
section
variable {X : Cx} {pos : Pos}
def gName (i : Nat) : TG := fun v σ H Q => Q (σ.set i (some v)) H
theorem pg_name {i : Nat} {x : Str} (hN : X.N.Nodup) (hi : X.N[i]? = some x) (hx : Loc X.env.scope x) (hf : X.fn x = true ∨ X.env.scope.names.lookup x = some .local := by first | exact .inl rfl | exact .inr rfl | assumption) : PG X (.Name x pos) (gName i) := by
  intro pins s σ H v u Q I r h
  exact wpAny_assign_Name (store_ok I hN hi hx r (fun s' I' => ⟨_, H, I', h⟩) hf)
def gNil : TGs := fun vs σ H Q => vs = [] ∧ Q σ H
def gCons (t : TG) (u : TGs) : TGs := fun vs σ H Q => ∃ v r, vs = v :: r ∧ t v σ H fun σ' H' => u r σ' H' Q
theorem pgs_nil : PGs X [] gNil := by
  intro pins s σ H vs us Q I r h
  obtain ⟨e, h⟩ := h
  subst e
  cases r
  exact assignInOrder_nil ⟨σ, H, I, h⟩
theorem pgs_cons {e : Expr} {es : List Expr} {t : TG} {u : TGs} (h1 : PG X e t) (h2 : PGs X es u)
    (hs : (assignEach (e :: es) X.env).map (·.2) = assign e X.env :: (assignEach es X.env).map (·.2) := by rfl) : PGs X (e :: es) (gCons t u) := by
  intro pins s σ H vs us Q I r h
  obtain ⟨v, vr, e1, h⟩ := h
  subst e1
  cases r with
  | cons r rr =>
    rw [hs]
    refine assignInOrder_cons (thn (h1 pins s σ H _ _ _ I r h) fun _ s1 ⟨σ1, H1, I1, q1⟩ => ?_)
    exact h2 pins s1 σ1 H1 _ _ Q I1 rr q1
def gTup (K : PySem.W.Frag) (n : Nat) (t : TGs) : TG := fun v σ H Q => ∃ a xs, v = .ref a ∧ SqT K H a xs ∧ xs.length = n ∧ t xs σ H Q
theorem pg_tup {es : List Expr} {k : Nat} {t : TGs} {n : Nat} (hc : X.calm = true) (h : PGs X es t)
    (hn : (assignEach es X.env).length = n := by rfl) (hst : (assignEach es X.env).findIdx? (·.1) = none := by rfl) : PG X (.Tuple es k pos) (gTup X.K n t) := by
  intro pins s σ H v u Q I r hw
  obtain ⟨a, xs, e1, hq, hl, hw⟩ := hw
  subst e1
  cases r
  obtain ⟨its, rv, ht, hz⟩ := I.tuple hq
  refine assign_Tuple_tuple (I.ok.hd hc) ht (by simp [hn, ← hl, rv.length]) hst fun h' hx => ?_
  have I1 : Inv X pins σ H { s with heap := h' } := I.kept (t' := s.toks) fun b o e => hx b o (Nat.ne_of_lt (Heap.lt_size e)) e
  exact h pins _ σ H xs _ Q I1 (by simpa using rv) hw
def gSub (to ti : TE) (t : TSet) : TG := fun v σ H Q => to σ H fun o H1 => ti σ H1 fun i H2 => t o i v H2 fun H3 => Q σ H3
theorem pg_sub {o i : Expr} {to ti : TE} {t : TSet} (ho : PE X o to) (hi : PE X i ti) (hs : PSet X t)
    (ha : ∀ v, assign (.Subscript o i pos) X.env v = (do
      let ov ← holding [v] (eval o X.env)
      let iv ← holding [v, ov] (eval i X.env)
      standAt pos
      holding [v, ov, iv] (setItem ov iv v)
      release [v, ov, iv] []) := by intro _; rfl) : PG X (.Subscript o i pos) (gSub to ti t) := by
  intro pins s σ H v u Q I r h
  rw [ha]
  refine wpAny_bind (wpAny_holding (thn (ho pins s σ H _ I h) fun ov s1 ⟨x, H1, I1, r1, q1⟩ => ?_))
  refine wpAny_bind (wpAny_holding (thn (hi pins s1 σ H1 _ I1 q1) fun iv s2 ⟨y, H2, I2, r2, q2⟩ => ?_))
  refine wpAny_bind (wpAny_standAt (wpAny_bind (wpAny_holding (thn (hs pins s2 σ H2 x y v ov iv u _ I2 r1 r2 r q2) fun _ s3 ⟨H3, I3, q3⟩ => ?_))))
  exact wpAny_release ⟨σ, H3, I3, q3⟩
def tAsg (te : TE) (g : TG) : TS := fun D σ H => te σ H fun x H1 => g x σ H1 D.nx
theorem ps_asg {tg e : Expr} {te : TE} {g : TG} (he : PE X e te) (hg : PG X tg g) (hs : swapsWithSole [tg] e pos.line X.env = pure false := by rfl) (hw : swappedStores [tg] e X.env = pure none := by rfl)
    (h1 : (assignEach [tg] X.env).map (·.2) = [assign tg X.env] := by rfl) : PS X (.Assign [tg] e pos) (tAsg te g) := by
  intro pins s σ H D I h
  refine wpAny_Assign_stores (thn (he pins s σ H _ I h) fun v s1 ⟨x, H1, I1, r1, q1⟩ => ?_) hs hw
  rw [h1]
  exact thn (hg pins s1 σ H1 x v _ I1 r1 q1) fun _ s2 q => q
theorem ps_set {i : Nat} {x : Str} {e : Expr} {te : TE} {pos' : Pos} (hN : X.N.Nodup) (hi : X.N[i]? = some x) (hx : Loc X.env.scope x) (he : PE X e te) (hs : swapsWith e (some (.Name x pos')) pos.line X.env = pure false := by rfl) (hf : X.fn x = true ∨ X.env.scope.names.lookup x = some .local := by first | exact .inl rfl | exact .inr rfl | assumption) :
    PS X (.Assign [.Name x pos'] e pos) (tAsg te (gName i)) := by
  intro pins s σ H D I h
  refine wpAny_Assign_Name (thn (he pins s σ H _ I h) fun v s1 ⟨y, H1, I1, r1, q1⟩ => ?_) hs
  exact store_ok I1 hN hi hx r1 (fun s2 I2 => ⟨_, H1, I2, q1⟩) hf
def tPar (i j : Nat) (ta : TA) : TS := fun D σ H => ta σ H fun vs H1 => ∃ v w, vs = [v, w] ∧ D.nx ((σ.set i (some v)).set j (some w)) H1
def tAug (i : Nat) (te : TE) (ti : TIp) : TS := fun D σ H => ∃ x, σ[i]? = some (some x) ∧ te σ H fun y H1 => ti x y H1 fun z H2 => D.nx (σ.set i (some z)) H2
theorem ps_aug {i : Nat} {x : Str} {e : Expr} {te : TE} {op : Operator} {ti : TIp} {pos' : Pos} (hN : X.N.Nodup) (hi : X.N[i]? = some x) (hx : Loc X.env.scope x) (he : PE X e te) (ho : PIp X op ti) (hf : X.fn x = true ∨ X.env.scope.names.lookup x = some .local := by first | exact .inl rfl | exact .inr rfl | assumption) :
    PS X (.AugAssign (.Name x pos') op e pos) (tAug i te ti) := by
  intro pins s σ H D I h
  obtain ⟨v, e1, h⟩ := h
  obtain ⟨m, hn, hl⟩ := I.loc
  have vis : Vis X.env.scope x := by rcases hx with k | k; exact .inl k; exact .inr (.inl k)
  obtain ⟨u, r, l⟩ := hl i x v hi e1 vis
  refine wpAny_AugAssign_Name ?_
  have go : wpAny (model X.prog X.w) X.A (eval e X.env) (fun w s₂ => wpAny (model X.prog X.w) X.A (inplaceOp op u w) (fun r s₃ => wpAny (model X.prog X.w) X.A (storeName X.env x r) (fun _ => SP X pins D .next) X.xe s₃) X.xe s₂) X.xe s := by
    refine thn (he pins s σ H _ I h) fun w s1 ⟨y, H1, I1, r1, q1⟩ => ?_
    refine thn (ho pins s1 σ H1 v y u w _ I1 r r1 q1) fun z s2 ⟨zv, H2, I2, r2, q2⟩ => ?_
    exact store_ok I2 hN hi hx r2 (fun s3 I3 => ⟨_, H2, I3, q2⟩) hf
  rcases l with ⟨hk, hm⟩ | ⟨hk, c, hc, hcell⟩
  · exact wpAny_loadName_local I.ok.kind hk hn hm go
  · rcases hk with hk | hk
    · exact wpAny_loadName_cell I.ok.kind hk hc hcell go
    · rcases hx with k | k
      · have : X.env.scope.names.lookup x = some .free := hk
        rw [k] at this; cases this
      · have : X.env.scope.names.lookup x = some .free := hk
        rw [k] at this; cases this
def tAugS (to ti te : TE) (tget : V → V → Hp → VK → Prop) (tip : TIp) (tset : TSet) : TS := fun D σ H => to σ H fun o H1 => ti σ H1 fun i H2 => tget o i H2 fun x H3 => te σ H3 fun y H4 => tip x y H4 fun z H5 => tset o i z H5 fun H6 => D.nx σ H6
def PGet (X : Cx) (t : V → V → Hp → VK → Prop) : Prop :=
  ∀ (pins : List (Addr × Obj)) (s : Shared) (σ : St) (H : Hp) (o i : V) (ov iv : Value) (Q : VK), Inv X pins σ H s → RelV o ov → RelV i iv → t o i H Q →
    wpAny (model X.prog X.w) X.A (getItem ov iv) (EP X pins σ Q) X.xe s
def ipI (f : Int → Int → Int) : TIp := fun x y H Q => ∃ i j, x = .int i ∧ y = .int j ∧ Q (.int (f i j)) H
theorem ip_add : PIp X .Add (ipI fun i j => i + j) := by
  intro pins s σ H x y v u Q I r1 r2 h
  obtain ⟨i, j, e1, e2, q⟩ := h
  subst e1; subst e2
  obtain ⟨t, rfl⟩ := r1
  obtain ⟨t', rfl⟩ := r2
  exact iadd_int ⟨.int _, H, I.tok _, ⟨_, rfl⟩, q⟩
end
section
variable {X : Cx} {pos : Pos}
def tWhile (c : TT) (tb : TS) : TS := fun D σ H => ∃ W : Nat → St → Hp → Prop, (∃ m, W m σ H) ∧ ∀ m σ H, W m σ H →
  c σ H fun b H1 => if b = true then ∃ N : St → Hp → Prop, (∀ σ' H', N σ' H' → ∃ m', m' < m ∧ W m' σ' H') ∧ tb { D with nx := N, ct := N, bk := D.nx } σ H1 else D.nx σ H1
theorem ps_while {c : Expr} {body : List Stmt} {tc : TT} {tb : TS} (hp : PassesOwn (model X.prog X.w) X.A X.env X.xe) (hc : PT X c tc) (hb : PSs X body tb) : PS X (.While c body [] pos) (tWhile tc tb) := by
  intro pins s σ H D I h
  obtain ⟨W, ⟨m0, w0⟩, turn⟩ := h
  refine wpAny_While (codeAny_whileLoop (fun n s' => ∃ σ' H', Inv X pins σ' H' s' ∧ W n σ' H') ?_ m0 ⟨σ, H, I, w0⟩)
  rintro n s1 ⟨σ1, H1, I1, w1⟩
  refine wpAny_passesOwn hp (thn (hc pins s1 σ1 H1 _ I1 (turn n σ1 H1 w1)) fun b s2 ⟨H2, I2, q2⟩ => ?_)
  cases b with
  | true =>
    obtain ⟨N, hN, q2⟩ := q2
    rw [if_pos rfl]
    refine wpAny_passesOwn hp (thn (hb pins s2 σ1 H2 _ I2 q2) fun f s3 q3 => ?_)
    cases f with
    | next =>
      obtain ⟨σ3, H3, I3, n3⟩ := q3
      obtain ⟨m', hm, w3⟩ := hN σ3 H3 n3
      exact ⟨m', hm, σ3, H3, I3, w3⟩
    | cont =>
      obtain ⟨σ3, H3, I3, n3⟩ := q3
      obtain ⟨m', hm, w3⟩ := hN σ3 H3 n3
      exact ⟨m', hm, σ3, H3, I3, w3⟩
    | brk => exact q3
    | ret v => exact q3
  | false =>
    rw [if_neg Bool.false_ne_true]
    exact wpAny_execs_nil ⟨σ1, H2, I2, q2⟩
end
structure It where
  go : Nat → Hp → Prop
  yld : Nat → Hp → V → Hp → Prop
  stop : Nat → Hp → Prop
def FpOk (X : Cx) (pins : List (Addr × Obj)) (H : Hp) (b : Addr) : Prop :=
  H b = none ∧ b ≠ X.env.locals ∧ b ∉ X.fs ∧ (b ∈ X.ex ∨ X.s₀.heap.objs.size ≤ b) ∧ (∀ x c, X.env.cells.lookup x = some c → c ≠ b) ∧ ∀ p ∈ X.pn ++ pins, p.1 ≠ b
theorem Inv.fpOk {X : Cx} {pins : List (Addr × Obj)} {σ : St} {H H' : Hp} {s : Shared} {b : Addr} (I : Inv X pins σ H s) (hb : s.heap.objs.size ≤ b) (hn : H' b = none) : FpOk X pins H' b := by
  refine ⟨hn, Nat.ne_of_gt (Nat.lt_of_lt_of_le I.lt hb), I.nofs hb, .inr (Nat.le_trans I.sz hb), fun x c e z => ?_, fun p hp z => ?_⟩
  · obtain ⟨v, q⟩ := I.cell x c e
    exact absurd (Nat.lt_of_lt_of_le q.lt (by rw [z]; exact hb)) (Nat.lt_irrefl _)
  · exact absurd (Nat.lt_of_lt_of_le (Heap.lt_size (I.pin p hp).1) (by rw [z]; exact hb)) (Nat.lt_irrefl _)
structure Turn (P : Program) (w : World) (K : PySem.W.Frag) (tg : Expr) (J : It) (fp : List Addr) (it : Addr) (tn : Nat → Heap → Prop) : Prop where
  mem : it ∈ fp
  obj : ∀ i h, tn i h → ∀ b ∈ fp, ∃ o, h.get? b = some o ∧ ∀ v, o.data ≠ .cell v
  keep : ∀ i h h', tn i h → (∀ b ∈ fp, ∀ o, h.get? b = some o → h'.get? b = some o) → tn i h'
  item : ∀ (X : Cx), X.prog = P → X.w = w → X.K = K → X.calm = true → ∀ (i : Nat) (pins : List (Addr × Obj)) (s : Shared) (σ : St) (H : Hp) (E : Value → Shared → Prop), Inv X pins σ H s → (∀ b ∈ fp, FpOk X pins H b) → tn i s.heap → J.go i H →
    wpAny (model P w) X.A (pyNext (.ref it)) (fun r s1 => ∃ u, r = some u ∧
      wpAny (model P w) X.A (letOwnedTupleGo tg (.ref it) u) (fun _ s2 => ∃ x H', Inv X pins σ H' s2 ∧ RelV x u ∧ J.yld i H x H' ∧ tn (i + 1) s2.heap ∧ ∀ b ∈ fp, H' b = none) E s1) E s
  done : ∀ (X : Cx), X.prog = P → X.w = w → X.K = K → X.calm = true → ∀ (i : Nat) (pins : List (Addr × Obj)) (s : Shared) (σ : St) (H : Hp) (E : Value → Shared → Prop), Inv X pins σ H s → (∀ b ∈ fp, FpOk X pins H b) → tn i s.heap → J.stop i H →
    wpAny (model P w) X.A (pyNext (.ref it)) (fun r s1 => r = none ∧ Inv X pins σ H s1) E s
  self : ∀ (A : Around) (i : Nat) (s : Shared) (Q : Value → Shared → Prop) (E : Value → Shared → Prop), tn i s.heap → Q (.ref it) s → wpAny (model P w) A (pyIter (.ref it)) Q E s
abbrev TI := St → Hp → (It → Hp → Prop) → Prop
def PIE (X : Cx) (pins : List (Addr × Obj)) (σ : St) (tg : Expr) (R : It → Hp → Prop) (itv : Value) (s2 : Shared) : Prop :=
  ∃ (it : Addr) (fp : List Addr) (tn : Nat → Heap → Prop) (J : It) (H' : Hp), itv = .ref it ∧ Inv X pins σ H' s2 ∧ Turn X.prog X.w X.K tg J fp it tn ∧ tn 0 s2.heap ∧ (∀ b ∈ fp, FpOk X pins H' b) ∧ R J H'
def PI (X : Cx) (tg iter : Expr) (wi : TI) : Prop :=
  ∀ (pins : List (Addr × Obj)) (s : Shared) (σ : St) (H : Hp) (R : It → Hp → Prop), Inv X pins σ H s → wi σ H R →
    wpAny (model X.prog X.w) X.A (eval iter X.env) (fun v s1 => wpAny (model X.prog X.w) X.A (pyIter v) (PIE X pins σ tg R) X.xe s1) X.xe s
theorem go_of {M : Model} {A : Around} {E : Value → Shared → Prop} {s : Shared} {tg : Expr} {it : Addr} {u : Value} {o : Obj} {n : String} {vs : Array Value} {Q : Unit → Shared → Prop} (ho : s.heap.get? it = some o) (hc : o.cls = .type n) (hd : o.data = .fields vs)
    (hn : ["enumerate", "zip", "dict_itemiterator", "dict_reverseitemiterator", "odict_iterator", "itertools.zip_longest", "itertools.pairwise"].contains n = false) (hQ : Q () s) : wpAny M A (letOwnedTupleGo tg (.ref it) u) Q E s := by
  unfold letOwnedTupleGo
  cases tg <;> first
    | exact wpAny_pure hQ
    | (cases u <;> first
        | exact wpAny_pure hQ
        | (refine wpAny_bind (wpAny_load ho ?_)
           rw [hc, hd]
           show wpAny M A (if (["enumerate", "zip", "dict_itemiterator", "dict_reverseitemiterator", "odict_iterator", "itertools.zip_longest", "itertools.pairwise"].contains n && vs[0]? == some (rawInt _)) = true then _ else _) Q E s
           rw [if_neg (by intro h; rw [hn, Bool.false_and] at h; cases h)]
           exact wpAny_pure hQ))
def Itl (K : PySem.W.Frag) (a : Addr) : It :=
  ⟨fun i H => ∃ xs x, SqL K H a xs ∧ xs[i]? = some x, fun i H x H' => H' = H ∧ ∀ xs, SqL K H a xs → xs[i]? = some x, fun i H => ∃ xs, SqL K H a xs ∧ xs.length ≤ i⟩
def Itt (K : PySem.W.Frag) (a : Addr) : It :=
  ⟨fun i H => ∃ xs x, SqT K H a xs ∧ xs[i]? = some x, fun i H x H' => H' = H ∧ ∀ xs, SqT K H a xs → xs[i]? = some x, fun i H => ∃ xs, SqT K H a xs ∧ xs.length ≤ i⟩
def Itr (lo : Int) (n : Nat) : It := ⟨fun i _ => i < n, fun i H x H' => H' = H ∧ x = .int (lo + i), fun i _ => n ≤ i⟩
theorem turn_list {P : Program} {w : World} {K : PySem.W.Frag} {tg : Expr} (a it : Addr) : Turn P w K tg (Itl K a) [it] it (fun i h => h.IsListIter it a i) where
  mem := by simp
  obj := fun i h st b hb => by
    have e : b = it := by simpa using hb
    subst e
    obtain ⟨o, e, c, d⟩ := st
    exact ⟨o, e, fun v z => by rw [d] at z; cases z⟩
  keep := fun i h h' st k => st.at fun o e => k it (by simp) o e
  item := by
    intro X hP hw hK hc i pins s σ H E I hf st hg
    subst hP hw hK
    obtain ⟨xs, x, hq, hx⟩ := hg
    obtain ⟨its, rv, p, hz⟩ := I.list hq
    obtain ⟨u, hu, ru⟩ := rv.get hx
    obtain ⟨f0, f1, f2, f3, f4, f5⟩ := hf it (by simp)
    refine wpAny_pyNext_list_item st p.isList (x := u) (by simpa using hu) fun h' st' sb => ?_
    have I1 : Inv X pins σ H { s with heap := h' } := I.turned (t' := s.toks) (fun b o hb e => (sb.2 b hb).trans e) f0 f1 f3 f4 f5
    obtain ⟨o, e, c, d⟩ := id st'
    exact ⟨u, rfl, go_of (s := { s with heap := h' }) e c d (by decide) ⟨x, H, I1, ru, ⟨rfl, fun ys hy => by rw [I.list_inj hy hq]; exact hx⟩, st', fun b hb => (hf b hb).1⟩⟩
  done := by
    intro X hP hw hK hc i pins s σ H E I hf st hg
    subst hP hw hK
    obtain ⟨xs, hq, hx⟩ := hg
    obtain ⟨its, rv, p, hz⟩ := I.list hq
    obtain ⟨f0, f1, f2, f3, f4, f5⟩ := hf it (by simp)
    have hl := rv.length
    exact wpAny_pyNext_list_end (I.ok.hd hc) st p.isList (by simp; omega) fun h' eb => ⟨rfl, I.turned (t' := s.toks) (fun b o hb e => eb b o hb e) f0 f1 f3 f4 f5⟩
  self := fun _ _ _ _ _ st h => wpAny_pyIter_listiter st h
theorem turn_tuple {P : Program} {w : World} {K : PySem.W.Frag} {tg : Expr} (a it : Addr) : Turn P w K tg (Itt K a) [it] it (fun i h => h.IsTupleIter it a i) where
  mem := by simp
  obj := fun i h st b hb => by
    have e : b = it := by simpa using hb
    subst e
    obtain ⟨o, e, c, d⟩ := st
    exact ⟨o, e, fun v z => by rw [d] at z; cases z⟩
  keep := fun i h h' st k => st.at fun o e => k it (by simp) o e
  item := by
    intro X hP hw hK hc i pins s σ H E I hf st hg
    subst hP hw hK
    obtain ⟨xs, x, hq, hx⟩ := hg
    obtain ⟨its, rv, p, hz⟩ := I.tuple hq
    obtain ⟨u, hu, ru⟩ := rv.get hx
    obtain ⟨f0, f1, f2, f3, f4, f5⟩ := hf it (by simp)
    refine wpAny_pyNext_tuple_item st (show s.heap.IsTuple a its.toArray from p) (x := u) (by simpa using hu) fun h' st' sb => ?_
    have I1 : Inv X pins σ H { s with heap := h' } := I.turned (t' := s.toks) (fun b o hb e => (sb.2 b hb).trans e) f0 f1 f3 f4 f5
    obtain ⟨o, e, c, d⟩ := id st'
    exact ⟨u, rfl, go_of (s := { s with heap := h' }) e c d (by decide) ⟨x, H, I1, ru, ⟨rfl, fun ys hy => by rw [I.tuple_inj hy hq]; exact hx⟩, st', fun b hb => (hf b hb).1⟩⟩
  done := by
    intro X hP hw hK hc i pins s σ H E I hf st hg
    subst hP hw hK
    obtain ⟨xs, hq, hx⟩ := hg
    obtain ⟨its, rv, p, hz⟩ := I.tuple hq
    obtain ⟨f0, f1, f2, f3, f4, f5⟩ := hf it (by simp)
    have hl := rv.length
    exact wpAny_pyNext_tuple_end (I.ok.hd hc) st (show s.heap.IsTuple a its.toArray from p) (by simp; omega) fun h' eb => ⟨rfl, I.turned (t' := s.toks) (fun b o hb e => eb b o hb e) f0 f1 f3 f4 f5⟩
  self := fun _ _ _ _ _ st h => wpAny_pyIter_tupleiter st h
theorem turn_range {P : Program} {w : World} {K : PySem.W.Frag} {tg : Expr} (it : Addr) (lo : Int) (n : Nat) : Turn P w K tg (Itr lo n) [it] it (fun i h => IsRangeIter h it (lo + (i : Nat) * 1) ((n : Int) - (i : Nat)) 1) where
  mem := by simp
  obj := fun i h st b hb => by
    have e : b = it := by simpa using hb
    subst e
    exact ⟨_, st, fun v z => by
      have z' : Data.fields _ = Data.cell v := z
      cases z'⟩
  keep := fun i h h' st k => k it (by simp) _ st
  item := by
    intro X hP hw hK hc i pins s σ H E I hf st hg
    subst hP hw hK
    obtain ⟨f0, f1, f2, f3, f4, f5⟩ := hf it (by simp)
    have W := Walks.range (prog := X.prog) (w := X.w) (I.ok.hd hc) it lo 1 n
    refine W.item i s _ _ hg st fun v h' tk hv st' kk => ?_
    obtain ⟨t, rfl⟩ := hv
    have I1 : Inv X pins σ H { s with heap := h', toks := tk } := I.turned (fun b o hb e => kk b o (by simpa using hb) e) f0 f1 f3 f4 f5
    refine ⟨_, rfl, go_of (s := { s with heap := h', toks := tk }) (n := "range_iterator") st' rfl rfl (by decide) ⟨.int (lo + i), H, I1, ⟨t, ?_⟩, ⟨rfl, rfl⟩, st', fun b hb => (hf b hb).1⟩⟩
    rw [Int.mul_one]
  done := by
    intro X hP hw hK hc i pins s σ H E I hf st hg
    subst hP hw hK
    obtain ⟨f0, f1, f2, f3, f4, f5⟩ := hf it (by simp)
    exact wpAny_pyNext_range_end (I.ok.hd hc) st (by have : n ≤ i := hg; omega) fun h' eb => ⟨rfl, I.turned (t' := s.toks) (fun b o hb e => eb b o hb e) f0 f1 f3 f4 f5⟩
  self := fun _ _ _ _ _ st h => wpAny_pyIter_rangeiter st h
end L2
namespace L2
open PySem PySem.Spec PyProof.Rows
section
variable {X : Cx} {tg : Expr}
def iList (K : PySem.W.Frag) (tl : TE) : TI := fun σ H R => tl σ H fun x H1 => ∃ a, x = .ref a ∧ (∃ xs, SqL K H1 a xs) ∧ R (Itl K a) H1
def iTup (K : PySem.W.Frag) (tl : TE) : TI := fun σ H R => tl σ H fun x H1 => ∃ a, x = .ref a ∧ (∃ xs, SqT K H1 a xs) ∧ R (Itt K a) H1
theorem pi_list {l : Expr} {tl : TE} (hl : PE X l tl) : PI X tg l (iList X.K tl) := by
  intro pins s σ H R I h
  refine thn (hl pins s σ H _ I h) fun v s1 ⟨x, H1, I1, r1, q1⟩ => ?_
  obtain ⟨a, e, ⟨xs, hq⟩, q⟩ := q1
  subst e
  cases r1
  obtain ⟨its, rv, p, hz⟩ := I1.list hq
  refine wpAny_pyIter_list p.isList ?_
  refine ⟨s1.heap.objs.size, [s1.heap.objs.size], _, _, H1, rfl, I1.kept (t' := s1.toks) fun b o e => Heap.get?_push_of_some _ e, turn_list a _, ⟨_, Heap.get?_push_size _ rfl, rfl, rfl⟩, fun b hb => ?_, q⟩
  have e : b = s1.heap.objs.size := by simpa using hb
  subst e
  exact I1.fpOk (Nat.le_refl _) (I1.hok.fresh (Nat.le_refl _))
theorem pi_tup {l : Expr} {tl : TE} (hl : PE X l tl) : PI X tg l (iTup X.K tl) := by
  intro pins s σ H R I h
  refine thn (hl pins s σ H _ I h) fun v s1 ⟨x, H1, I1, r1, q1⟩ => ?_
  obtain ⟨a, e, ⟨xs, hq⟩, q⟩ := q1
  subst e
  cases r1
  obtain ⟨its, rv, p, hz⟩ := I1.tuple hq
  refine wpAny_pyIter_tuple (show s1.heap.IsTuple a its.toArray from p) ?_
  refine ⟨s1.heap.objs.size, [s1.heap.objs.size], _, _, H1, rfl, I1.kept (t' := s1.toks) fun b o e => Heap.get?_push_of_some _ e, turn_tuple a _, ⟨_, Heap.get?_push_size _ rfl, rfl, rfl⟩, fun b hb => ?_, q⟩
  have e : b = s1.heap.objs.size := by simpa using hb
  subst e
  exact I1.fpOk (Nat.le_refl _) (I1.hok.fresh (Nat.le_refl _))
theorem range_it {pins : List (Addr × Obj)} {σ : St} {H : Hp} {s : Shared} {R : It → Hp → Prop} {E : Value → Shared → Prop} {lo hi : Int} {t u v : Tok} {tk : Nat} (I : Inv X pins σ H s) (h1 : -(2 ^ 62) ≤ lo) (h2 : lo < 2 ^ 62) (h3 : -(2 ^ 62) ≤ hi) (h4 : hi < 2 ^ 62)
    (q : R (Itr lo (hi - lo).toNat) H) : wpAny (model X.prog X.w) X.A (pyIter (.ref s.heap.objs.size)) (PIE X pins σ tg R) E { s with heap := s.heap.push { cls := .type "range", data := .fields #[.int lo t, .int hi u, .int 1 v] }, toks := tk } := by
  refine wpAny_pyIter_range (IsRange.new ..) (small_one h1 h2 h3 h4) ?_
  have I1 : Inv X pins σ H { s with heap := s.heap.push { cls := .type "range", data := .fields #[.int lo t, .int hi u, .int 1 v] }, toks := tk } := I.kept fun b o e => Heap.get?_push_of_some _ e
  refine ⟨(s.heap.push { cls := .type "range", data := .fields #[.int lo t, .int hi u, .int 1 v] }).objs.size, [(s.heap.push { cls := .type "range", data := .fields #[.int lo t, .int hi u, .int 1 v] }).objs.size], _, _, H, rfl,
    I1.kept (t' := tk) fun b o e => Heap.get?_push_of_some _ e, turn_range _ lo (hi - lo).toNat, ?_, fun b hb => ?_, q⟩
  · have e1 : lo + ((0 : Nat) : Int) * 1 = lo := by simp
    have e2 : (((hi - lo).toNat : Nat) : Int) - ((0 : Nat) : Int) = Builtin.Range.rangeSize lo hi 1 := by rw [rangeSize_one]; split <;> omega
    show IsRangeIter _ _ (lo + ((0 : Nat) : Int) * 1) ((((hi - lo).toNat : Nat) : Int) - ((0 : Nat) : Int)) 1
    rw [e1, e2]
    exact Heap.get?_push_size _ rfl
  · have e : b = (s.heap.push { cls := .type "range", data := .fields #[.int lo t, .int hi u, .int 1 v] }).objs.size := by simpa using hb
    subst e
    exact I1.fpOk (Nat.le_refl _) (I1.hok.fresh (Nat.le_refl _))
def iRng1 (ta : TA) : TI := fun σ H R => ta σ H fun vs H1 => ∃ j : Int, vs = [.int j] ∧ -(2 ^ 62) ≤ j ∧ j < 2 ^ 62 ∧ R (Itr 0 j.toNat) H1
def iRng2 (ta : TA) : TI := fun σ H R => ta σ H fun vs H1 => ∃ i j : Int, vs = [.int i, .int j] ∧ (-(2 ^ 62) ≤ i ∧ i < 2 ^ 62 ∧ -(2 ^ 62) ≤ j ∧ j < 2 ^ 62) ∧ R (Itr i (j - i).toNat) H1
theorem pi_range1 {a : Expr} {ta : TA} {p pos : Pos} (hg : Gl X "range") (hm : X.mg "range" = none) (ha : PA X [a] ta) (hs : starEach [a] X.env = [(false, eval a X.env)] := by rfl) : PI X tg (.Call (.Name "range" p) [a] [] pos) (iRng1 ta) := by
  intro pins s σ H R I h
  refine Call_ (ld_blt I hg hm boot_range (PyProof.Rows.callWith_type1 (thn (ha pos pins s σ H _ I h) fun us s1 ⟨vs, H1, I1, r1, q1⟩ => ?_) hs rfl))
  obtain ⟨j, e, q1, q2, q⟩ := q1
  subst e
  cases r1 with
  | cons r rr =>
    cases rr
    obtain ⟨t, rfl⟩ := r
    exact call_range_1 (range_it I1 (by omega) (by omega) q1 q2 (by simpa using q))
theorem pi_range2 {a b : Expr} {ta : TA} {p pos : Pos} (hg : Gl X "range") (hm : X.mg "range" = none) (ha : PA X [a, b] ta) (hs : starEach [a, b] X.env = [(false, eval a X.env), (false, eval b X.env)] := by rfl) (hs2 : starEach [b] X.env = [(false, eval b X.env)] := by rfl) :
    PI X tg (.Call (.Name "range" p) [a, b] [] pos) (iRng2 ta) := by
  intro pins s σ H R I h
  refine Call_ (ld_blt I hg hm boot_range (PyProof.Rows.callWith_type1 (thn (ha pos pins s σ H _ I h) fun us s1 ⟨vs, H1, I1, r1, q1⟩ => ?_) (by rw [hs, hs2]) (by rw [hs2]; rfl)))
  obtain ⟨i, j, e, ⟨q1, q2, q3, q4⟩, q⟩ := q1
  subst e
  cases r1 with
  | cons r rr =>
    cases rr with
    | cons r' rr =>
      cases rr
      obtain ⟨t, rfl⟩ := r
      obtain ⟨t', rfl⟩ := r'
      exact call_range_2 (range_it I1 q1 q2 q3 q4 q)
def tFor (wi : TI) (g : TG) (tb : TS) : TS := fun D σ H => wi σ H fun J H1 => ∃ W : Nat → Nat → St → Hp → Prop, (∃ m, W 0 m σ H1) ∧ ∀ i m σ H, W i m σ H →
  (J.stop i H ∧ D.nx σ H) ∨ (J.go i H ∧ ∃ N : St → Hp → Prop, (∀ σ' H', N σ' H' → ∃ m', m' < m ∧ W (i + 1) m' σ' H') ∧ ∀ x H', J.yld i H x H' → g x σ H' fun σ2 H2 => tb { D with nx := N, ct := N, bk := D.nx } σ2 H2)
def pinsAt (fp : List Addr) (h : Heap) : List (Addr × Obj) := fp.filterMap fun b => (h.get? b).map fun o => (b, o)
theorem mem_pinsAt {fp : List Addr} {h : Heap} {b : Addr} {o : Obj} (hb : b ∈ fp) (e : h.get? b = some o) : (b, o) ∈ pinsAt fp h := List.mem_filterMap.mpr ⟨b, hb, by rw [e]; rfl⟩
theorem of_pinsAt {fp : List Addr} {h : Heap} {p : Addr × Obj} (hp : p ∈ pinsAt fp h) : p.1 ∈ fp ∧ h.get? p.1 = some p.2 := by
  obtain ⟨b, hb, e⟩ := List.mem_filterMap.mp hp
  cases q : h.get? b with
  | none => rw [q] at e; cases e
  | some o =>
    rw [q] at e
    have e' : (b, o) = p := Option.some.inj e
    subst e'
    exact ⟨hb, q⟩
theorem Inv.pinned {pins : List (Addr × Obj)} {σ : St} {H : Hp} {s : Shared} {fp : List Addr} (I : Inv X pins σ H s) (hf : ∀ b ∈ fp, FpOk X pins H b) (ho : ∀ b ∈ fp, ∃ o, s.heap.get? b = some o ∧ ∀ v, o.data ≠ .cell v) : Inv X (pins ++ pinsAt fp s.heap) σ H s :=
  I.pins_of fun p hp => (List.mem_append.mp hp).elim (fun z => I.pin p (List.mem_append_right _ z)) fun z => by
    obtain ⟨hb, e⟩ := of_pinsAt z
    obtain ⟨f0, f1, f2, _⟩ := hf p.1 hb
    obtain ⟨o, e', d⟩ := ho p.1 hb
    rw [e] at e'; cases e'
    exact ⟨e, f0, f1, f2, d⟩
theorem Inv.unpinned {pins pl : List (Addr × Obj)} {σ : St} {H : Hp} {s : Shared} (I : Inv X (pins ++ pl) σ H s) : Inv X pins σ H s := I.pins_of fun p hp => I.pin p (List.mem_append_right _ (List.mem_append_left _ hp))
theorem ps_for {iter : Expr} {body : List Stmt} {wi : TI} {g : TG} {tb : TS} {pos : Pos} (hp : PassesOwn (model X.prog X.w) X.A X.env X.xe) (hc : X.calm = true) (hi : PI X tg iter wi) (hg : PG X tg g) (hb : PSs X body tb)
    (hs : ∀ x, foldedSetIterable iter X.env x = pure x := by intro _; rfl) : PS X (.For tg iter body [] pos) (tFor wi g tb) := by
  intro pins s σ H D I h
  refine wpAny_For (thn (hi pins s σ H _ I h) fun v s1 h1 => thn h1 fun itv s2 h2 => ?_) hs
  obtain ⟨it, fp, tn, J, H2, e, I2, T, st2, f2, W, ⟨m0, w0⟩, turn⟩ := h2
  subst e
  -- what stays true of the iterator's objects through the loop
  have stat : ∀ {H' : Hp}, (∀ b ∈ fp, H' b = none) → ∀ b ∈ fp, FpOk X pins H' b := fun hn b hb => ⟨hn b hb, (f2 b hb).2⟩
  refine codeAny_forLoop_any (fun n s' => ∃ i σ' H', Inv X pins σ' H' s' ∧ tn i s'.heap ∧ (∀ b ∈ fp, H' b = none) ∧ W i n σ' H') ?_ m0 ⟨0, σ, H2, I2, st2, fun b hb => (f2 b hb).1, w0⟩
  rintro n s3 ⟨i, σ3, H3, I3, st3, fr3, w3⟩
  rcases turn i n σ3 H3 w3 with ⟨stop, qn⟩ | ⟨go, N, hN, step⟩
  · refine wpAny_passesOwn hp (thn (T.done X rfl rfl rfl hc i pins s3 σ3 H3 X.xe I3 (stat fr3) st3 stop) fun r s4 ⟨hr, I4⟩ => ?_)
    subst hr
    exact wpAny_execs_nil ⟨σ3, H3, I4, qn⟩
  · refine wpAny_passesOwn hp (thn (T.item X rfl rfl rfl hc i pins s3 σ3 H3 X.xe I3 (stat fr3) st3 go) fun r s4 ⟨u, hr, h4⟩ => ?_)
    subst hr
    refine wpAny_passesOwn hp (thn h4 fun _ s5 ⟨x, H5, I5, r5, y5, st5, fr5⟩ => ?_)
    have I5' := I5.pinned (stat fr5) (T.obj _ _ st5)
    refine wpAny_passesOwn hp (thn (hg _ s5 σ3 H5 x u _ I5' r5 (step x H5 y5)) fun _ s6 ⟨σ6, H6, I6, q6⟩ => ?_)
    refine wpAny_passesOwn hp (thn (hb _ s6 σ6 H6 _ I6 q6) fun f s7 q7 => ?_)
    have again : ∀ {σ7 : St} {H7 : Hp}, Inv X (pins ++ pinsAt fp s5.heap) σ7 H7 s7 → N σ7 H7 → ∃ m, m < n ∧ ∃ i σ' H', Inv X pins σ' H' s7 ∧ tn i s7.heap ∧ (∀ b ∈ fp, H' b = none) ∧ W i m σ' H' := fun {σ7 H7} I7 n7 => by
      obtain ⟨m', hm, w7⟩ := hN σ7 H7 n7
      refine ⟨m', hm, i + 1, σ7, H7, I7.unpinned, T.keep _ _ _ st5 fun b hb o e => (I7.pin (b, o) (List.mem_append_right _ (List.mem_append_right _ (mem_pinsAt hb e)))).1, fun b hb => ?_, w7⟩
      obtain ⟨o, e, d⟩ := T.obj _ _ st5 b hb
      exact (I7.pin (b, o) (List.mem_append_right _ (List.mem_append_right _ (mem_pinsAt hb e)))).2.1
    cases f with
    | next => obtain ⟨σ7, H7, I7, n7⟩ := q7; exact again I7 n7
    | cont => obtain ⟨σ7, H7, I7, n7⟩ := q7; exact again I7 n7
    | brk => obtain ⟨σ7, H7, I7, q7⟩ := q7; exact ⟨σ7, H7, I7.unpinned, q7⟩
    | ret v => obtain ⟨x7, σ7, H7, I7, r7, q7⟩ := q7; exact ⟨x7, σ7, H7, I7.unpinned, r7, q7⟩
end
theorem for_list {K : PySem.W.Frag} {a : Addr} {xs : List V} {g : TG} {tb : TS} {D : Ends} {σ : St} {H : Hp} (Pv : Nat → St → Hp → Prop) (h0 : Pv 0 σ H) (hl : ∀ i σ H, i ≤ xs.length → Pv i σ H → SqL K H a xs)
    (hs : ∀ i x σ H, xs[i]? = some x → Pv i σ H → g x σ H fun σ2 H2 => tb { D with nx := Pv (i + 1), ct := Pv (i + 1), bk := D.nx } σ2 H2) (hd : ∀ σ H, Pv xs.length σ H → D.nx σ H) :
    ∃ W : Nat → Nat → St → Hp → Prop, (∃ m, W 0 m σ H) ∧ ∀ i m σ H, W i m σ H →
      ((Itl K a).stop i H ∧ D.nx σ H) ∨ ((Itl K a).go i H ∧ ∃ N : St → Hp → Prop, (∀ σ' H', N σ' H' → ∃ m', m' < m ∧ W (i + 1) m' σ' H') ∧ ∀ x H', (Itl K a).yld i H x H' → g x σ H' fun σ2 H2 => tb { D with nx := N, ct := N, bk := D.nx } σ2 H2) := by
  refine ⟨fun i m σ H => m = xs.length - i ∧ i ≤ xs.length ∧ Pv i σ H, ⟨xs.length, by simp, Nat.zero_le _, h0⟩, ?_⟩
  rintro i m σ H ⟨rfl, hi, p⟩
  have q := hl i σ H hi p
  by_cases hlt : i < xs.length
  · refine .inr ⟨⟨xs, xs[i], q, by simp [hlt]⟩, Pv (i + 1), fun σ' H' p' => ⟨xs.length - (i + 1), by omega, rfl, hlt, p'⟩, fun x H' y => ?_⟩
    obtain ⟨e, y⟩ := y
    subst e
    exact hs i x σ _ (y xs q) p
  · have e : i = xs.length := by omega
    subst e
    exact .inl ⟨⟨xs, q, Nat.le_refl _⟩, hd σ H p⟩
theorem for_tup {K : PySem.W.Frag} {a : Addr} {xs : List V} {g : TG} {tb : TS} {D : Ends} {σ : St} {H : Hp} (Pv : Nat → St → Hp → Prop) (h0 : Pv 0 σ H) (hl : ∀ i σ H, i ≤ xs.length → Pv i σ H → SqT K H a xs)
    (hs : ∀ i x σ H, xs[i]? = some x → Pv i σ H → g x σ H fun σ2 H2 => tb { D with nx := Pv (i + 1), ct := Pv (i + 1), bk := D.nx } σ2 H2) (hd : ∀ σ H, Pv xs.length σ H → D.nx σ H) :
    ∃ W : Nat → Nat → St → Hp → Prop, (∃ m, W 0 m σ H) ∧ ∀ i m σ H, W i m σ H →
      ((Itt K a).stop i H ∧ D.nx σ H) ∨ ((Itt K a).go i H ∧ ∃ N : St → Hp → Prop, (∀ σ' H', N σ' H' → ∃ m', m' < m ∧ W (i + 1) m' σ' H') ∧ ∀ x H', (Itt K a).yld i H x H' → g x σ H' fun σ2 H2 => tb { D with nx := N, ct := N, bk := D.nx } σ2 H2) := by
  refine ⟨fun i m σ H => m = xs.length - i ∧ i ≤ xs.length ∧ Pv i σ H, ⟨xs.length, by simp, Nat.zero_le _, h0⟩, ?_⟩
  rintro i m σ H ⟨rfl, hi, p⟩
  have q := hl i σ H hi p
  by_cases hlt : i < xs.length
  · refine .inr ⟨⟨xs, xs[i], q, by simp [hlt]⟩, Pv (i + 1), fun σ' H' p' => ⟨xs.length - (i + 1), by omega, rfl, hlt, p'⟩, fun x H' y => ?_⟩
    obtain ⟨e, y⟩ := y
    subst e
    exact hs i x σ _ (y xs q) p
  · have e : i = xs.length := by omega
    subst e
    exact .inl ⟨⟨xs, q, Nat.le_refl _⟩, hd σ H p⟩
theorem for_range {lo : Int} {n : Nat} {g : TG} {tb : TS} {D : Ends} {σ : St} {H : Hp} (Pv : Nat → St → Hp → Prop) (h0 : Pv 0 σ H)
    (hs : ∀ i σ H, i < n → Pv i σ H → g (.int (lo + i)) σ H fun σ2 H2 => tb { D with nx := Pv (i + 1), ct := Pv (i + 1), bk := D.nx } σ2 H2) (hd : ∀ σ H, Pv n σ H → D.nx σ H) :
    ∃ W : Nat → Nat → St → Hp → Prop, (∃ m, W 0 m σ H) ∧ ∀ i m σ H, W i m σ H →
      ((Itr lo n).stop i H ∧ D.nx σ H) ∨ ((Itr lo n).go i H ∧ ∃ N : St → Hp → Prop, (∀ σ' H', N σ' H' → ∃ m', m' < m ∧ W (i + 1) m' σ' H') ∧ ∀ x H', (Itr lo n).yld i H x H' → g x σ H' fun σ2 H2 => tb { D with nx := N, ct := N, bk := D.nx } σ2 H2) := by
  refine ⟨fun i m σ H => m = n - i ∧ i ≤ n ∧ Pv i σ H, ⟨n, by simp, Nat.zero_le _, h0⟩, ?_⟩
  rintro i m σ H ⟨rfl, hi, p⟩
  by_cases hlt : i < n
  · refine .inr ⟨hlt, Pv (i + 1), fun σ' H' p' => ⟨n - (i + 1), by omega, rfl, hlt, p'⟩, fun x H' y => ?_⟩
    obtain ⟨e, y⟩ := y
    subst e y
    exact hs i σ _ hlt p
  · have e : i = n := by omega
    subst e
    exact .inl ⟨Nat.le_refl _, hd σ H p⟩
end L2
namespace L2
open PySem PySem.Spec PyProof.Rows
abbrev R2 := V → V → Hp → VK → Prop
def OpR (X : Cx) (f : Value → Value → Sem Value) (r : R2) : Prop :=
  ∀ (pins : List (Addr × Obj)) (s : Shared) (σ : St) (H : Hp) (x y : V) (v u : Value) (Q : VK), Inv X pins σ H s → RelV x v → RelV y u → r x y H Q →
    wpAny (model X.prog X.w) X.A (f v u) (EP X pins σ Q) X.xe s
def UnR (X : Cx) (f : Value → Sem Value) (r : V → Hp → VK → Prop) : Prop :=
  ∀ (pins : List (Addr × Obj)) (s : Shared) (σ : St) (H : Hp) (x : V) (v : Value) (Q : VK), Inv X pins σ H s → RelV x v → r x H Q →
    wpAny (model X.prog X.w) X.A (f v) (EP X pins σ Q) X.xe s
def CallR (X : Cx) (f : Value) (r : List V → Hp → VK → Prop) : Prop :=
  ∀ (pins : List (Addr × Obj)) (s : Shared) (σ : St) (H : Hp) (xs : List V) (us : List Value) (Q : VK), Inv X pins σ H s → Vals xs us → r xs H Q →
    wpAny (model X.prog X.w) X.A (call f us) (EP X pins σ Q) X.xe s
def TruR (X : Cx) (r : V → Hp → (Bool → Hp → Prop) → Prop) : Prop :=
  ∀ (pins : List (Addr × Obj)) (s : Shared) (σ : St) (H : Hp) (x : V) (v : Value) (Q : Bool → Hp → Prop), Inv X pins σ H s → RelV x v → r x H Q →
    wpAny (model X.prog X.w) X.A (truthy v) (TP X pins σ Q) X.xe s
def tOp (r : R2) (ta tb : TE) : TE := fun σ H Q => ta σ H fun x H1 => tb σ H1 fun y H2 => r x y H2 Q
def tUn (r : V → Hp → VK → Prop) (ta : TE) : TE := fun σ H Q => ta σ H fun x H1 => r x H1 Q
def rI (C : Int → Int → Prop) (g : Int → Int → V) : R2 := fun x y H Q => ∃ i j, x = .int i ∧ y = .int j ∧ C i j ∧ Q (g i j) H
def rI0 (g : Int → Int → V) : R2 := fun x y H Q => ∃ i j, x = .int i ∧ y = .int j ∧ Q (g i j) H
def rU (g : Int → V) : V → Hp → VK → Prop := fun x H Q => ∃ i, x = .int i ∧ Q (g i) H
section
variable {X : Cx} {a b c : Expr} {ta tb tc : TE} {pos : Pos}
theorem binT (ha : PE X a ta) (hb : PE X b tb) {pins : List (Addr × Obj)} {s : Shared} {σ : St} {H : Hp} {R : V → V → Hp → Prop} (I : Inv X pins σ H s)
    (h : ta σ H fun x H1 => tb σ H1 fun y H2 => R x y H2) {Q : Value → Shared → Prop} {f : Value → Value → Sem Value}
    (hf : ∀ v u s2 x y H2, Inv X pins σ H2 s2 → RelV x v → RelV y u → R x y H2 → wpAny (model X.prog X.w) X.A (f v u) Q X.xe s2) :
    wpAny (model X.prog X.w) X.A (eval a X.env) (fun v s₁ => wpAny (model X.prog X.w) X.A (eval b X.env) (fun u s₂ => wpAny (model X.prog X.w) X.A (f v u) Q X.xe s₂) X.xe s₁) X.xe s := by
  refine thn (ha pins s σ H _ I h) fun v s1 ⟨x, H1, I1, r1, q1⟩ => ?_
  refine thn (hb pins s1 σ H1 _ I1 q1) fun u s2 ⟨y, H2, I2, r2, q2⟩ => ?_
  exact hf v u s2 x y H2 I2 r1 r2 q2
theorem pe_op {op : Operator} {r : R2} (ho : OpR X (binaryOp op) r) (ha : PE X a ta) (hb : PE X b tb) : PE X (.BinOp a op b pos) (tOp r ta tb) := by
  intro pins s σ H Q I h
  exact wpAny_BinOp (binT ha hb I h fun v u s2 x y H2 I2 rx ry q => ho pins s2 σ H2 x y v u Q I2 rx ry q)
theorem pe_un {op : UnaryOp} {r : V → Hp → VK → Prop} (ho : UnR X (unaryOp op) r) (ha : PE X a ta) : PE X (.UnaryOp op a pos) (tUn r ta) := by
  intro pins s σ H Q I h
  exact UnaryOp_ (thn (ha pins s σ H _ I h) fun v s1 ⟨x, H1, I1, r1, q1⟩ => ho pins s1 σ H1 x v Q I1 r1 q1)
theorem opI {f : Value → Value → Sem Value} {C : Int → Int → Prop} {g : Int → Int → Int}
    (rule : ∀ (i j : Int) (t u : Tok) (s : Shared) (Q : Value → Shared → Prop) (E : Value → Shared → Prop), C i j → Q (.int (g i j) s.toks) { s with toks := s.toks + 1 } → wpAny (model X.prog X.w) X.A (f (.int i t) (.int j u)) Q E s) :
    OpR X f (rI C fun i j => .int (g i j)) := by
  intro pins s σ H x y v u Q I rx ry h
  obtain ⟨i, j, rfl, rfl, hc, q⟩ := h
  obtain ⟨t, rfl⟩ := rx
  obtain ⟨t', rfl⟩ := ry
  exact rule i j t t' s _ _ hc ⟨.int (g i j), H, I.tok _, ⟨_, rfl⟩, q⟩
theorem opI0 {f : Value → Value → Sem Value} {g : Int → Int → Int}
    (rule : ∀ (i j : Int) (t u : Tok) (s : Shared) (Q : Value → Shared → Prop) (E : Value → Shared → Prop), Q (.int (g i j) s.toks) { s with toks := s.toks + 1 } → wpAny (model X.prog X.w) X.A (f (.int i t) (.int j u)) Q E s) :
    OpR X f (rI0 fun i j => .int (g i j)) := by
  intro pins s σ H x y v u Q I rx ry h
  obtain ⟨i, j, rfl, rfl, q⟩ := h
  obtain ⟨t, rfl⟩ := rx
  obtain ⟨t', rfl⟩ := ry
  exact rule i j t t' s _ _ ⟨.int (g i j), H, I.tok _, ⟨_, rfl⟩, q⟩
theorem opB0 {f : Value → Value → Sem Value} {g : Int → Int → Bool}
    (rule : ∀ (i j : Int) (t u : Tok) (s : Shared) (Q : Value → Shared → Prop) (E : Value → Shared → Prop), Q (.bool (g i j)) s → wpAny (model X.prog X.w) X.A (f (.int i t) (.int j u)) Q E s) :
    OpR X f (rI0 fun i j => .bl (g i j)) := by
  intro pins s σ H x y v u Q I rx ry h
  obtain ⟨i, j, rfl, rfl, q⟩ := h
  obtain ⟨t, rfl⟩ := rx
  obtain ⟨t', rfl⟩ := ry
  exact rule i j t t' s _ _ ⟨.bl (g i j), H, I, rfl, q⟩
def CDiv (i j : Int) : Prop := 0 < j ∧ j < 1073741824
def CDivN (i j : Int) : Prop := j ≠ 0 ∧ j.natAbs < 1073741824
def CPow (i j : Int) : Prop := 0 ≤ j ∧ j ≤ 1000000 ∧ i.natAbs < 2 ^ 64
def CMul (i j : Int) : Prop := (-(2 ^ 64) < i ∧ i < 2 ^ 64) ∨ (-(2 ^ 64) < j ∧ j < 2 ^ 64)
theorem CMul.ok {i j : Int} (h : CMul i j) : IntMulOk i j := by
  rcases h with ⟨h1, h2⟩ | ⟨h1, h2⟩
  · exact .of_left (intBits_le_64 h1 h2)
  · exact .of_right (intBits_le_64 h1 h2)
theorem op_add : OpR X (binaryOp .Add) (rI0 fun i j => .int (i + j)) := opI0 fun _ _ _ _ _ _ _ q => add_int q
theorem op_sub : OpR X (binaryOp .Sub) (rI0 fun i j => .int (i - j)) := opI0 fun _ _ _ _ _ _ _ q => sub_int q
theorem op_fdiv : OpR X (binaryOp .FloorDiv) (rI CDiv fun i j => .int (i / j)) := opI fun i j _ _ _ _ _ hc q => by
  have h1 : (0 : Int) < j := hc.1
  have h2 : j < 1073741824 := hc.2
  exact floordiv_int (by omega) (by rw [Int.fdiv_eq_ediv_of_nonneg i (by omega)]; exact q) (.inl (PyProof.noPylong_small (by omega)))
theorem op_mod : OpR X (binaryOp .Mod) (rI (fun _ j => 0 < j) fun i j => .int (i % j)) := opI fun i j _ _ _ _ _ hc q => by
  have h1 : (0 : Int) < j := hc
  exact mod_int' (by omega) (by rw [Int.fmod_eq_emod_of_nonneg i (by omega)]; exact q)
theorem unI {f : Value → Sem Value} {g : Int → Int}
    (rule : ∀ (i : Int) (t : Tok) (s : Shared) (Q : Value → Shared → Prop) (E : Value → Shared → Prop), Q (.int (g i) s.toks) { s with toks := s.toks + 1 } → wpAny (model X.prog X.w) X.A (f (.int i t)) Q E s) :
    UnR X f (rU fun i => .int (g i)) := by
  intro pins s σ H x v Q I rx h
  obtain ⟨i, rfl, q⟩ := h
  obtain ⟨t, rfl⟩ := rx
  exact rule i t s _ _ ⟨.int (g i), H, I.tok _, ⟨_, rfl⟩, q⟩
theorem un_neg : UnR X (unaryOp .USub) (rU fun i => .int (-i)) := unI fun _ _ _ _ _ q => neg_int q
end
def scal : V → V → Bool
  | .non, .non => true | .non, .int _ => true | .int _, .non => true | .non, .bl _ => true | .bl _, .non => true | .non, .str _ => true | .str _, .non => true
  | .int _, .int _ => true | .bl _, .bl _ => true | .str _, .str _ => true | .byt _, .byt _ => true
  | .int _, .str _ => true | .str _, .int _ => true | .bl _, .str _ => true | .str _, .bl _ => true
  | _, _ => false
def rEq : R2 := fun x y H Q => scal x y = true ∧ Q (.bl (decide (x = y))) H
def rNe : R2 := fun x y H Q => scal x y = true ∧ Q (.bl (!decide (x = y))) H
theorem dec_int {i j : Int} : decide (V.int i = V.int j) = (i == j) := by
  rw [Bool.eq_iff_iff]
  simp
theorem dec_bl {i j : Bool} : decide (V.bl i = V.bl j) = (i == j) := by
  rw [Bool.eq_iff_iff]
  simp
theorem dec_str {i j : Str} : decide (V.str i = V.str j) = (i == j) := by
  rw [Bool.eq_iff_iff]
  simp
theorem dec_byt {i j : Array UInt8} : decide (V.byt i = V.byt j) = (i.toList == j.toList) := by
  rw [Bool.eq_iff_iff]
  cases i
  cases j
  simp
section
variable {X : Cx} {a b c : Expr} {ta tb tc : TE} {pos : Pos}
theorem fin_bl {pins : List (Addr × Obj)} {σ : St} {H : Hp} {s : Shared} {Q : VK} {k k' : Bool} (I : Inv X pins σ H s) (q : Q (.bl k) H) (e : k = k') : EP X pins σ Q (.bool k') s := by
  subst e
  exact ⟨.bl k, H, I, rfl, q⟩
theorem op_eq : OpR X (compareOp .Eq) rEq := by
  intro pins s σ H x y v u Q I rx ry h
  obtain ⟨hs, q⟩ := h
  cases x with
  | non =>
    cases rx
    cases y with
    | non => cases ry; exact PySem.EqNone.eq_none_none (fin_bl I q (by simp))
    | bl j => cases ry; exact PySem.EqNone.eq_none_bool (fin_bl I q (by simp))
    | int j => obtain ⟨t', rfl⟩ := ry; exact PySem.EqNone.eq_none_int (fin_bl I q (by simp))
    | str j => obtain ⟨t', rfl⟩ := ry; exact PySem.EqNone.eq_none_str (fin_bl I q (by simp))
    | _ => exact absurd (show false = true from hs) Bool.false_ne_true
  | bl i =>
    cases rx
    cases y with
    | non => cases ry; exact PySem.EqNone.eq_bool_none (fin_bl I q (by simp))
    | bl j => cases ry; exact eq_bool (fin_bl I q dec_bl)
    | str j => obtain ⟨t', rfl⟩ := ry; exact PySem.EqMixed.eq_bool_str (fin_bl I q (by simp))
    | _ => exact absurd (show false = true from hs) Bool.false_ne_true
  | int i =>
    obtain ⟨t, rfl⟩ := rx
    cases y with
    | non => cases ry; exact PySem.EqNone.eq_int_none (fin_bl I q (by simp))
    | int j => obtain ⟨t', rfl⟩ := ry; exact eq_int (fin_bl I q dec_int)
    | str j => obtain ⟨t', rfl⟩ := ry; exact PySem.EqMixed.eq_int_str (fin_bl I q (by simp))
    | _ => exact absurd (show false = true from hs) Bool.false_ne_true
  | str i =>
    obtain ⟨t, rfl⟩ := rx
    cases y with
    | non => cases ry; exact PySem.EqNone.eq_str_none (fin_bl I q (by simp))
    | bl j => cases ry; exact PySem.EqMixed.eq_str_bool (fin_bl I q (by simp))
    | int j => obtain ⟨t', rfl⟩ := ry; exact PySem.EqMixed.eq_str_int (fin_bl I q (by simp))
    | str j => obtain ⟨t', rfl⟩ := ry; exact eq_str (fin_bl I q dec_str)
    | _ => exact absurd (show false = true from hs) Bool.false_ne_true
  | byt i =>
    obtain ⟨t, rfl⟩ := rx
    cases y with
    | byt j => obtain ⟨t', rfl⟩ := ry; exact PySem.W.eq_bytes (fin_bl I q dec_byt)
    | _ => exact absurd (show false = true from hs) Bool.false_ne_true
  | _ => cases y <;> exact absurd (show false = true from hs) Bool.false_ne_true
theorem op_ne : OpR X (compareOp .NotEq) rNe := by
  intro pins s σ H x y v u Q I rx ry h
  obtain ⟨hs, q⟩ := h
  cases x with
  | non =>
    cases rx
    cases y with
    | non => cases ry; exact PySem.EqNone.ne_none_none (fin_bl I q (by simp))
    | bl j => cases ry; exact PySem.EqNone.ne_none_bool (fin_bl I q (by simp))
    | int j => obtain ⟨t', rfl⟩ := ry; exact PySem.EqNone.ne_none_int (fin_bl I q (by simp))
    | str j => obtain ⟨t', rfl⟩ := ry; exact PySem.EqNone.ne_none_str (fin_bl I q (by simp))
    | _ => exact absurd (show false = true from hs) Bool.false_ne_true
  | bl i =>
    cases rx
    cases y with
    | non => cases ry; exact PySem.EqNone.ne_bool_none (fin_bl I q (by simp))
    | bl j => cases ry; exact ne_bool (fin_bl I q (congrArg not dec_bl))
    | str j => obtain ⟨t', rfl⟩ := ry; exact PySem.EqMixed.ne_bool_str (fin_bl I q (by simp))
    | _ => exact absurd (show false = true from hs) Bool.false_ne_true
  | int i =>
    obtain ⟨t, rfl⟩ := rx
    cases y with
    | non => cases ry; exact PySem.EqNone.ne_int_none (fin_bl I q (by simp))
    | int j => obtain ⟨t', rfl⟩ := ry; exact ne_int (fin_bl I q (congrArg not dec_int))
    | str j => obtain ⟨t', rfl⟩ := ry; exact PySem.EqMixed.ne_int_str (fin_bl I q (by simp))
    | _ => exact absurd (show false = true from hs) Bool.false_ne_true
  | str i =>
    obtain ⟨t, rfl⟩ := rx
    cases y with
    | non => cases ry; exact PySem.EqNone.ne_str_none (fin_bl I q (by simp))
    | bl j => cases ry; exact PySem.EqMixed.ne_str_bool (fin_bl I q (by simp))
    | int j => obtain ⟨t', rfl⟩ := ry; exact PySem.EqMixed.ne_str_int (fin_bl I q (by simp))
    | str j => obtain ⟨t', rfl⟩ := ry; exact ne_str (fin_bl I q (congrArg not dec_str))
    | _ => exact absurd (show false = true from hs) Bool.false_ne_true
  | byt i =>
    obtain ⟨t, rfl⟩ := rx
    cases y with
    | byt j => obtain ⟨t', rfl⟩ := ry; exact PySem.W.ne_bytes (fin_bl I q (congrArg not dec_byt))
    | _ => exact absurd (show false = true from hs) Bool.false_ne_true
  | _ => cases y <;> exact absurd (show false = true from hs) Bool.false_ne_true
theorem op_lt : OpR X (compareOp .Lt) (rI0 fun i j => .bl (decide (i < j))) := opB0 fun _ _ _ _ _ _ _ q => lt_int q
theorem op_le : OpR X (compareOp .LtE) (rI0 fun i j => .bl (decide (i ≤ j))) := opB0 fun _ _ _ _ _ _ _ q => le_int q
theorem op_gt : OpR X (compareOp .Gt) (rI0 fun i j => .bl (decide (j < i))) := opB0 fun _ _ _ _ _ _ _ q => gt_int q
theorem op_ge : OpR X (compareOp .GtE) (rI0 fun i j => .bl (decide (j ≤ i))) := opB0 fun _ _ _ _ _ _ _ q => ge_int q
theorem op_in_str : OpR X (compareOp .In) (fun x y H Q => ∃ i j, x = .str i ∧ y = .str j ∧ Q (.bl (!(Builtin.Str.occurrences j i 0 j.length 1).isEmpty)) H) := by
  intro pins s σ H x y v u Q I rx ry h
  obtain ⟨i, j, rfl, rfl, q⟩ := h
  obtain ⟨t, rfl⟩ := rx
  obtain ⟨t', rfl⟩ := ry
  exact in_str (fin_bl I q rfl)
theorem op_isN : OpR X (compareOp .Is) (fun x y H Q => y = .non ∧ Q (.bl (decide (x = .non))) H) := by
  intro pins s σ H x y v u Q I rx ry h
  obtain ⟨rfl, q⟩ := h
  cases ry
  refine is_none_gen (fin_bl I q ?_)
  cases x <;> first
    | (cases rx; rfl)
    | (obtain ⟨t, rfl⟩ := rx; rfl)
theorem op_notN : OpR X (compareOp .IsNot) (fun x y H Q => y = .non ∧ Q (.bl (!decide (x = .non))) H) := by
  intro pins s σ H x y v u Q I rx ry h
  obtain ⟨rfl, q⟩ := h
  cases ry
  refine isnot_none_gen (fin_bl I q ?_)
  cases x <;> first
    | (cases rx; rfl)
    | (obtain ⟨t, rfl⟩ := rx; rfl)
def isObj : HO → Bool
  | .lst _ => true
  | .ins _ _ _ => true
  | _ => false
theorem nomark (b : Expr) {op : CmpOp} (h : op ≠ .In := by decide) (h2 : op ≠ .NotIn := by decide) : behindInMarks op b = false := by
  have e1 : (op == CmpOp.In) = false := by cases op <;> first | rfl | exact absurd rfl h
  have e2 : (op == CmpOp.NotIn) = false := by cases op <;> first | rfl | exact absurd rfl h2
  cases b <;> simp [behindInMarks, e1, e2]
theorem pe_cmpR {op : CmpOp} {r : R2} (ho : OpR X (compareOp op) r) (ha : PE X a ta) (hb : PE X b tb) (hm : behindInMarks op b = false) : PE X (.Compare a [op] [b] pos) (tOp r ta tb) := by
  intro pins s σ H Q I h
  exact wpAny_Compare1 (binT ha hb I h fun v u s2 x y H2 I2 rx ry q => ho pins s2 σ H2 x y v u Q I2 rx ry q) hm
def tTest (t : TE) : TT := fun σ H Q => t σ H fun x H' => ∃ k, x = .bl k ∧ Q k H'
theorem pt_cmpR {op : CmpOp} {r : R2} (ho : OpR X (compareOp op) r) (ha : PE X a ta) (hb : PE X b tb) (hm : behindInMarks op b = false) : PT X (.Compare a [op] [b] pos) (tTest (tOp r ta tb)) := by
  intro pins s σ H Q I h
  refine wpAny_isTrue_Compare1 (thn (ha pins s σ H _ I h) fun v s1 ⟨x, H1, I1, r1, q1⟩ => thn (hb pins s1 σ H1 _ I1 q1) fun u s2 ⟨y, H2, I2, r2, q2⟩ =>
    thn (ho pins s2 σ H2 x y v u _ I2 r1 r2 q2) fun c s3 ⟨z, H3, I3, r3, k, e, q3⟩ => ?_) hm
  subst e
  cases r3
  exact wpAny_truthy_bool ⟨H3, I3, q3⟩
def tChain (r r' : R2) (ta tb tc : TE) : TE := fun σ H Q => ta σ H fun x H1 => tb σ H1 fun y H2 => r x y H2 fun z H3 => ∃ k, z = .bl k ∧
  (if k = true then tc σ H3 fun w' H4 => r' y w' H4 Q else Q (.bl false) H3)
theorem pt_chain {op op' : CmpOp} {r r' : R2} (ho : OpR X (compareOp op) r) (ho' : OpR X (compareOp op') r') (ha : PE X a ta) (hb : PE X b tb) (hc : PE X c tc)
    (hm : lastMarks [op, op'] [b, c] = false := by with_unfolding_all rfl) : PT X (.Compare a [op, op'] [b, c] pos) (tTest (tChain r r' ta tb tc)) := by
  intro pins s σ H Q I h
  refine isTrue_chain (thn (ha pins s σ H _ I h) fun v s1 ⟨x, H1, I1, r1, q1⟩ => test_link (thn (hb pins s1 σ H1 _ I1 q1) fun u s2 ⟨y, H2, I2, r2, q2⟩ =>
    thn (ho pins s2 σ H2 x y v u _ I2 r1 r2 q2) fun d s3 ⟨z, H3, I3, r3, k, e, q3⟩ => ?_)) hm
  subst e
  cases r3
  refine wpAny_truthy_bool ?_
  cases k with
  | false =>
    obtain ⟨k', e', q'⟩ := q3
    cases e'
    exact ite_ff ⟨H3, I3, q'⟩
  | true =>
    refine ite_tt (test_last (thn (hc pins s3 σ H3 _ I3 q3) fun w' s4 ⟨z', H4, I4, r4, q4⟩ => thn (ho' pins s4 σ H4 y z' u w' _ I4 r2 r4 q4) fun d' s5 ⟨z2, H5, I5, r5, k2, e2, q5⟩ => ?_))
    subst e2
    cases r5
    exact wpAny_truthy_bool ⟨H5, I5, q5⟩
def TruV (K : PySem.W.Frag) (x : V) (H : Hp) (k : Bool) : Prop :=
  match x with
  | .non => k = false
  | .bl b => k = b
  | .int i => k = (i != 0)
  | .str y => y.length ≤ sizeLine ∧ k = ((y.length : Int) != 0)
  | .byt y => y.size ≤ sizeLine ∧ k = ((y.size : Int) != 0)
  | .ref p => (∃ xs, SqL K H p xs ∧ k = !xs.isEmpty) ∨ (∃ xs, SqT K H p xs ∧ k = !xs.isEmpty) ∨ ∃ kvs, H p = some (.dK kvs) ∧ k = !kvs.isEmpty
  | _ => False
theorem isEmpty_kv {κ : Type} {kvs : List (κ × V)} {vs : List (κ × Value)} (r : KV kvs vs) : (!vs.isEmpty) = !kvs.isEmpty := by
  cases r <;> rfl
theorem isEmpty_of {xs : List V} {its : List Value} (r : Vals xs its) : (!its.toArray.isEmpty) = !xs.isEmpty := by
  cases r <;> simp
theorem line63 : (sizeLine : Nat) < 2 ^ 63 := by rw [sizeLine_eq]; decide
theorem tru_ok : TruR X (fun x H Q => ∃ k, TruV X.K x H k ∧ Q k H) := by
  intro pins s σ H x v Q I rx h
  obtain ⟨k, e, q⟩ := h
  have hl := line63
  have hs : sizeLine = 16777216 := sizeLine_eq
  cases x with
  | non =>
    cases rx
    have e' : k = false := e
    subst e'
    exact truthy_none ⟨H, I, q⟩
  | bl b =>
    cases rx
    have e' : k = b := e
    subst e'
    exact wpAny_truthy_bool ⟨H, I, q⟩
  | int i =>
    obtain ⟨t, rfl⟩ := rx
    have e' : k = (i != 0) := e
    subst e'
    exact PySem.P.truthy_int ⟨H, I, q⟩
  | str y =>
    obtain ⟨t, rfl⟩ := rx
    obtain ⟨hy, e'⟩ : y.length ≤ sizeLine ∧ k = ((y.length : Int) != 0) := e
    subst e'
    exact PySem.P.truthy_str (by omega) ⟨H, I.tok _, q⟩
  | byt y =>
    obtain ⟨t, rfl⟩ := rx
    obtain ⟨hy, e'⟩ : y.size ≤ sizeLine ∧ k = ((y.size : Int) != 0) := e
    subst e'
    exact PySem.W.truthy_bytes (by omega) ⟨H, I.tok _, q⟩
  | ref p =>
    cases rx
    have e' : (∃ xs, SqL X.K H p xs ∧ k = !xs.isEmpty) ∨ (∃ xs, SqT X.K H p xs ∧ k = !xs.isEmpty) ∨ ∃ kvs, H p = some (.dK kvs) ∧ k = !kvs.isEmpty := e
    rcases e' with ⟨xs, hx, e'⟩ | ⟨xs, hx, e'⟩ | ⟨kvs, hx, e'⟩
    · subst e'
      obtain ⟨its, r, pl, hz⟩ := I.list hx
      have hlen := r.length
      exact wpAny_truthy_list pl.isList (by simp only [List.size_toArray]; omega) ⟨H, I.tok _, by rw [isEmpty_of r]; exact q⟩
    · subst e'
      obtain ⟨its, r, pl, hz⟩ := I.tuple hx
      have hlen := r.length
      exact truthy_tuple pl (by simp only [List.size_toArray]; omega) ⟨H, I.tok _, by rw [isEmpty_of r]; exact q⟩
    · subst e'
      obtain ⟨hz, hS, vs, r, m⟩ : kvs.length ≤ sizeLine ∧ (p == sysModules) = false ∧ ∃ vs, KV kvs vs ∧ s.heap.DictOf (mixKind X.prog X.w) p vs := I.hok p _ hx
      have hlen : kvs.length = vs.length := Paired.length r
      exact wpAny_truthy_dict hS m (by omega) ⟨H, I.tok _, by rw [isEmpty_kv r]; exact q⟩
  | _ => exact (show False from e).elim
theorem pt_truth (ha : PE X a ta) (he : ∀ whole, isTrue a X.env whole = (do let v ← whole; standAt a.pos; holding [v] (truthy v))) :
    PT X a (fun σ H Q => ta σ H fun x H' => ∃ k, TruV X.K x H' k ∧ Q k H') := by
  intro pins s σ H Q I h
  exact isTrue_plain (thn (ha pins s σ H _ I h) fun v s1 ⟨x, H1, I1, r1, q1⟩ => tru_ok pins s1 σ H1 x v Q I1 r1 q1) (he _)
theorem op_add_str : OpR X (binaryOp .Add) (fun x y H Q => ∃ i j, x = .str i ∧ y = .str j ∧ i.length + j.length ≤ sizeLine ∧ Q (.str (i ++ j)) H) := by
  intro pins s σ H x y v u Q I rx ry h
  obtain ⟨i, j, rfl, rfl, hz, q⟩ := h
  obtain ⟨t, rfl⟩ := rx
  obtain ⟨t', rfl⟩ := ry
  exact add_str (fun t' tk => ⟨.str (i ++ j), H, I.tok _, ⟨_, rfl⟩, q⟩) hz
def PlainIxT (b : Expr) : Prop := ∀ o i, subscripted b false o i = operate [o, i] (getItem o i)
theorem vals1 {x : V} {us : List Value} (r : Vals [x] us) : ∃ u, us = [u] ∧ RelV x u := by
  cases r with
  | cons r1 r2 => cases r2; exact ⟨_, rfl, r1⟩
theorem vals2 {x y : V} {us : List Value} (r : Vals [x, y] us) : ∃ u w', us = [u, w'] ∧ RelV x u ∧ RelV y w' := by
  cases r with
  | cons r1 r2 =>
    cases r2 with
    | cons r3 r4 => cases r4; exact ⟨_, _, rfl, r1, r3⟩
theorem call_max2 (hc : X.calm = true) : CallR X (.builtin "max") (fun xs H Q => ∃ i j, xs = [.int i, .int j] ∧ Q (.int (if j > i then j else i)) H) := by
  intro pins s σ H xs us Q I r h
  obtain ⟨i, j, rfl, q⟩ := h
  obtain ⟨u, w', rfl, ⟨t, rfl⟩, ⟨t', rfl⟩⟩ := vals2 r
  refine max_two_ints (I.ok.hd hc) fun h' tk k => ⟨_, H, I.kept k, ?_, q⟩
  by_cases hj : j > i
  · rw [if_pos hj, if_pos hj]; exact ⟨_, rfl⟩
  · rw [if_neg hj, if_neg hj]; exact ⟨_, rfl⟩
theorem call_min2 (hc : X.calm = true) : CallR X (.builtin "min") (fun xs H Q => ∃ i j, xs = [.int i, .int j] ∧ Q (.int (if j < i then j else i)) H) := by
  intro pins s σ H xs us Q I r h
  obtain ⟨i, j, rfl, q⟩ := h
  obtain ⟨u, w', rfl, ⟨t, rfl⟩, ⟨t', rfl⟩⟩ := vals2 r
  refine min_two_ints (I.ok.hd hc) fun h' tk k => ⟨_, H, I.kept k, ?_, q⟩
  by_cases hj : j < i
  · rw [if_pos hj, if_pos hj]; exact ⟨_, rfl⟩
  · rw [if_neg hj, if_neg hj]; exact ⟨_, rfl⟩
theorem call_int1 : CallR X (.type "int") (fun xs H Q => (∃ i, xs = [.int i] ∧ Q (.int i) H) ∨ ∃ k, xs = [.bl k] ∧ Q (.int (if k then 1 else 0)) H) := by
  intro pins s σ H xs us Q I r h
  rcases h with ⟨i, rfl, q⟩ | ⟨k, rfl, q⟩
  · obtain ⟨u, rfl, t, rfl⟩ := vals1 r
    exact call_int_int ⟨.int i, H, I, ⟨_, rfl⟩, q⟩
  · obtain ⟨u, rfl, r1⟩ := vals1 r
    cases r1
    exact call_int_bool ⟨.int (if k then 1 else 0), H, I.tok _, ⟨_, rfl⟩, q⟩
def LenV (K : PySem.W.Frag) (x : V) (H : Hp) (n : Nat) : Prop :=
  match x with
  | .str y => y.length ≤ sizeLine ∧ n = y.length
  | .byt y => y.size ≤ sizeLine ∧ n = y.size
  | .ref p => (∃ xs, SqL K H p xs ∧ n = xs.length) ∨ ∃ xs, SqT K H p xs ∧ n = xs.length
  | _ => False
end
end L2
namespace L2
open PySem PySem.Spec PyProof.Rows
structure ObjM (h : Heap) (x dx C : Addr) (mA : Str → Option Value) : Prop where
  obj : h.get? x = some (PySem.W.instObj C dx)
  ns : h.Ns1 dx mA
  ne : dx ≠ x
theorem lookIn_ns {h : Heap} {dx : Addr} {mA : Str → Option Value} (n : h.Ns1 dx mA) : ∃ od, h.get? dx = some od ∧ ∀ name, PySem.W.lookIn name od = some (mA name) := by
  obtain ⟨o, es, ep, ho, hd, hk, _, hm⟩ := n
  refine ⟨o, ho, fun name => ?_⟩
  have e := hm name
  unfold nsFind findBy at e
  rw [← Array.find?_toList] at e
  unfold PySem.W.lookIn
  rw [hd]
  dsimp only
  split
  · rename_i y q
    rw [q] at e
    exact congrArg some e
  · rename_i q
    rw [q] at e
    have a : es.toList.any (·.refKey) = false := by
      rw [List.any_eq_false]
      intro y hy
      obtain ⟨z, t, hkey⟩ := hk y (Array.mem_toList_iff.mp hy)
      simp [DictEntry.refKey, hkey]
    have a' : ¬ es.toList.any (·.refKey) = true := by rw [a]; exact Bool.false_ne_true
    rw [if_neg a']
    exact congrArg some e
theorem ObjM.look {h : Heap} {x dx C : Addr} {mA : Str → Option Value} (I : ObjM h x dx C mA) : ∃ od, PySem.W.InstAt h x (PySem.W.instObj C dx) C (some od) ∧ ∀ name, PySem.W.lookIn name od = some (mA name) :=
  let ⟨od, ho, hl⟩ := lookIn_ns I.ns
  ⟨od, ⟨I.obj, rfl, rfl, ho⟩, hl⟩
section
variable {prog : Program} {w : World} {A : Around} {E : Value → Shared → Prop} {s : Shared} {K : PySem.W.Frag} {x dx C f : Addr} {mA : Str → Option Value} {name : Str} {v : Value}
end
def putF (f : Str) (v : V) : List (Str × V) → List (Str × V)
  | [] => [(f, v)]
  | (g, x) :: r => if g = f then (g, v) :: r else (g, x) :: putF f v r
theorem RelO.some_of {v : V} {o : Option Value} (r : RelO (some v) o) : ∃ u, o = some u ∧ RelV v u := by
  cases o with
  | none => exact (show False from r).elim
  | some u => exact ⟨u, rfl, r⟩
section
variable {P : Program} {w : World} {H H' : Hp} {h h' : Heap} {a C dx : Addr} {fs fs' : List (Str × V)}
theorem ins_get (hok : HOk P w H h) (e : H a = some (.ins C dx fs)) : ∃ mA, ObjM h a dx C mA ∧ (∀ f, RelO (fs.lookup f) (mA f)) ∧ PySem.Within mA (fs.map (·.1)) ∧ fs.length ≤ 1000 ∧ H dx = some (.own a) := by
  obtain ⟨d, z, ne, ob, mA, n, r, q⟩ := (show ObjOk P w H h a (.ins C dx fs) from hok a _ e)
  exact ⟨mA, ⟨ob, n, ne⟩, r, q, z, d⟩
end
structure Cls (K : PySem.W.Frag) (C : Addr) : Prop where
  pg : PySem.W.plainGet K C Str.empty = true
  hd : PySem.W.hasDictIn K C = true
  po : PySem.W.plainOver K C = true
  sa : PySem.W.findIn K (.ref C) "__setattr__" = some (some (.builtin "object.__setattr__"))
theorem Cls.get {K : PySem.W.Frag} {C : Addr} (c : Cls K C) (f : Str) : PySem.W.plainGet K C f = true := c.pg
def NoAttr (K : PySem.W.Frag) (C : Addr) (f : Str) : Prop := PySem.W.findIn K (.ref C) f = some none
structure Con (K : PySem.W.Frag) (C : Addr) (f : Str) (v : V) (u : Value) : Prop where
  at_ : PySem.W.findIn K (.ref C) f = some (some u)
  rel : RelV v u
  get : PySem.W.specialIn K u "__get__" = some none
  cp : PySem.W.copiedNames.contains f = false
structure Meth (K : PySem.W.Frag) (C : Addr) (m : Str) (f : Addr) : Prop where
  at_ : PySem.W.findIn K (.ref C) m = some (some (.ref f))
  fn : PySem.W.isFn K (.ref f) = true
  kp : PySem.W.keepIn K (.ref f) = true
section
variable {X : Cx} {pins : List (Addr × Obj)} {σ : St} {H : Hp} {s : Shared} {a C dx : Addr} {fs : List (Str × V)} {f : Str} {v : V} {A : Around} {E : Value → Shared → Prop}
end
def tFld (K : PySem.W.Frag) (ta : TE) (f : Str) : TE := fun σ H Q => ta σ H fun x H1 => ∃ a C dx fs v, x = .ref a ∧ H1 a = some (.ins C dx fs) ∧ Cls K C ∧ NoAttr K C f ∧ fs.lookup f = some v ∧ Q v H1
def tCon (K : PySem.W.Frag) (ta : TE) (f : Str) : TE := fun σ H Q => ta σ H fun x H1 => ∃ a C dx fs v u, x = .ref a ∧ H1 a = some (.ins C dx fs) ∧ Cls K C ∧ Con K C f v u ∧ fs.lookup f = none ∧ Q v H1
def sFld (K : PySem.W.Frag) (ta tv : TE) (f : Str) : TS := fun D σ H => tv σ H fun y H1 => ta σ H1 fun x H2 => ∃ a C dx fs, x = .ref a ∧ H2 a = some (.ins C dx fs) ∧ Cls K C ∧ NoAttr K C f ∧ fs.length < 1000 ∧
  D.nx σ (upd H2 a (.ins C dx (putF f y fs)))
def InOp (X : Cx) (op : Operator) (rd : V → V → Hp → VK → Prop) : Prop :=
  ∀ (pins : List (Addr × Obj)) (s : Shared) (σ : St) (H : Hp) (x y : V) (u v : Value) (Q : VK), Inv X pins σ H s → RelV x u → RelV y v → rd x y H Q → wpAny (model X.prog X.w) X.A (inplaceOp op u v) (EP X pins σ Q) X.xe s
def sFldAug (K : PySem.W.Frag) (ta tv : TE) (rd : V → V → Hp → VK → Prop) (f : Str) : TS := fun D σ H => ta σ H fun x H1 => ∃ a C dx fs v, x = .ref a ∧ H1 a = some (.ins C dx fs) ∧ Cls K C ∧ NoAttr K C f ∧ fs.lookup f = some v ∧
  tv σ H1 fun y H2 => rd v y H2 fun z H3 => ∃ dx' fs', H3 a = some (.ins C dx' fs') ∧ fs'.length < 1000 ∧ D.nx σ (upd H3 a (.ins C dx' (putF f z fs')))
section
variable {X : Cx} {o e value : Expr} {f : Str} {pos pos' tpos : Pos} {ta tv : TE}
def rAdd : V → V → Hp → VK → Prop := fun x y H Q => ∃ i j, x = .int i ∧ y = .int j ∧ Q (.int (i + j)) H
def rSub : V → V → Hp → VK → Prop := fun x y H Q => ∃ i j, x = .int i ∧ y = .int j ∧ Q (.int (i - j)) H
end
section
variable {X : Cx} {pins : List (Addr × Obj)} {σ : St} {H : Hp} {s : Shared} {A : Around} {E : Value → Shared → Prop} {Q : Value → Shared → Prop} {c : Value} {b : Bool}
inductive TyOf (K : PySem.W.Frag) (H : Hp) : V → Value → Prop where
  | non : TyOf K H .non (.type "NoneType")
  | bl (x : Bool) : TyOf K H (.bl x) (.type "bool")
  | int (i : Int) : TyOf K H (.int i) (.type "int")
  | str (x : Str) : TyOf K H (.str x) (.type "str")
  | flt (x : UInt64) : TyOf K H (.flt x) (.type "float")
  | lst {a : Addr} {xs : List V} (e : H a = some (.lst xs)) : TyOf K H (.ref a) (.type "list")
  | frz {a : Addr} {o : Obj} {xs : List V} (e : H a = some (.frz o (.lst xs))) : TyOf K H (.ref a) (.type "list")
  | tup {a : Addr} {xs : List V} (e : H a = some (.tup xs)) : TyOf K H (.ref a) (.type "tuple")
  | dK {a : Addr} {kvs : List (Key × V)} (e : H a = some (.dK kvs)) : TyOf K H (.ref a) (.type "dict")
  | dT {a : Addr} {kvs : List (List Key × V)} (e : H a = some (.dT kvs)) : TyOf K H (.ref a) (.type "dict")
  | ins {a C dx : Addr} {fs : List (Str × V)} (e : H a = some (.ins C dx fs)) (cl : Cls K C) (ha : PySem.W.findIn K (.ref C) "__class__" = some (some (.builtin "object.__class__")))
      (hn : PySem.W.specialIn K (.builtin "object.__class__") "__get__" = some (some (.builtin "getset_descriptor.__get__"))) (htk : PySem.W.takesIn K (.builtin "object.__class__") = some true)
      (hm : PySem.W.mroIn K C (.type "object") = some true) : TyOf K H (.ref a) (.ref C)
theorem isinst_ok {x : V} {u t : Value} (I : Inv X pins σ H s) (rx : RelV x u) (ty : TyOf X.K H x t) (e : PySem.W.kitOne X.K t c = some b) (h : ∀ tk, Q (.bool b) { s with toks := tk }) :
    wpAny (model X.prog X.w) A (call (.builtin "isinstance") [u, c]) Q E s := by
  cases ty with
  | non => cases (show u = Value.none from rx); exact PySem.W.kia_one PySem.W.kitx_none I.kIn True.intro e (fun z => nomatch z) h
  | bl y => cases (show u = Value.bool y from rx); exact PySem.W.kia_one PySem.W.kitx_bool I.kIn True.intro e (fun z => nomatch z) h
  | int i => obtain ⟨t, q⟩ := (show ∃ t, u = Value.int i t from rx); cases q; exact PySem.W.kia_one PySem.W.kitx_int I.kIn True.intro e (fun z => nomatch z) h
  | str y => obtain ⟨t, q⟩ := (show ∃ t, u = Value.str y t from rx); cases q; exact PySem.W.kia_one PySem.W.kitx_str I.kIn True.intro e (fun z => nomatch z) h
  | flt y => obtain ⟨t, q⟩ := (show ∃ t, u = Value.float y t from rx); cases q; exact PySem.W.kia_one PySem.W.kitx_float I.kIn True.intro e (fun z => nomatch z) h
  | @lst a xs ea =>
    cases (show u = Value.ref a from rx)
    obtain ⟨_, _, n, _, h1⟩ := (show ObjOk X.prog X.w H s.heap a (.lst xs) from I.hok a _ ea)
    exact PySem.W.kia_one PySem.W.kitx_list I.kIn ⟨_, h1, rfl⟩ e (fun z => nomatch z) h
  | @frz a ob xs ea =>
    cases (show u = Value.ref a from rx)
    obtain ⟨_, _, _, n, _, h1⟩ := (show ObjOk X.prog X.w H s.heap a (.frz ob (.lst xs)) from I.hok a _ ea)
    exact PySem.W.kia_one PySem.W.kitx_list I.kIn ⟨_, h1, rfl⟩ e (fun z => nomatch z) h
  | @tup a xs ea =>
    cases (show u = Value.ref a from rx)
    obtain ⟨_, _, _, p⟩ := (show ObjOk X.prog X.w H s.heap a (.tup xs) from I.hok a _ ea)
    obtain ⟨o, h1, h2, _⟩ := p
    exact PySem.W.kia_one PySem.W.kitx_tuple I.kIn ⟨o, h1, h2⟩ e (fun z => nomatch z) h
  | @dK a kvs ea =>
    cases (show u = Value.ref a from rx)
    obtain ⟨_, _, vs, _, p⟩ := (show ObjOk X.prog X.w H s.heap a (.dK kvs) from I.hok a _ ea)
    obtain ⟨o, es, ep, h1, h2, _⟩ := p
    exact PySem.W.kia_one PySem.W.kitx_dict I.kIn ⟨o, h1, h2.1⟩ e (fun z => nomatch z) h
  | @dT a kvs ea =>
    cases (show u = Value.ref a from rx)
    obtain ⟨_, _, xs, _, o, es, ep, h1, h2, _⟩ := (show ObjOk X.prog X.w H s.heap a (.dT kvs) from I.hok a _ ea)
    exact PySem.W.kia_one PySem.W.kitx_dict I.kIn ⟨o, h1, h2.1⟩ e (fun z => nomatch z) h
  | @ins a C dx fs ea cl ha hn htk hm =>
    cases (show u = Value.ref a from rx)
    obtain ⟨mA, O, _⟩ := ins_get I.hok ea
    obtain ⟨od, J, _⟩ := O.look
    exact PySem.W.kia_one (PySem.W.kitx_own (cl.get _) cl.hd ha hn htk hm) I.kIn J e (fun z => nomatch z) h
end
end L2
namespace L2
open PySem PySem.Spec PyProof.Rows
structure Room (k : Nat) (A : Around) : Prop where
  hd : A.handled = none
  dp : A.depth + 3 * k + 5 < recursionLimit
  un : A.units + 16 * k + 200 < cLine
  gd : A.guards = some []
theorem Room.mono {j k : Nat} {A : Around} (r : Room k A) (h : j ≤ k) : Room j A := ⟨r.hd, by have := r.dp; omega, by have := r.un; omega, r.gd⟩
theorem Room.deeper {k : Nat} {A : Around} (r : Room (k + 1) A) (env : Env) : Room k (A.deeper env) :=
  ⟨r.hd, by have := r.dp; show A.depth + 1 + 3 * k + 5 < _; omega, by have := r.un; show A.units + 3 + 16 * k + 200 < _; omega, r.gd⟩
theorem Room.in1 {k : Nat} {A : Around} (r : Room (k + 1) A) : Room k A.in1 :=
  ⟨r.hd, by have := r.dp; show A.depth + 3 * k + 5 < _; omega, by have := r.un; show A.units + 1 + 16 * k + 200 < _; omega, r.gd⟩
theorem Room.depth {k : Nat} {A : Around} (r : Room k A) : A.depth < recursionLimit := by have := r.dp; omega
theorem Room.units {k : Nat} {A : Around} (r : Room k A) : A.units + 64 < cLine := by have := r.un; omega
theorem Room.units0 {k : Nat} {A : Around} (r : Room k A) : A.units < cLine := by have := r.un; omega
def tNil : TA := fun _ H Q => Q [] H
def tCons (ta : TE) (tr : TA) : TA := fun σ H Q => ta σ H fun x H1 => tr σ H1 fun xs H2 => Q (x :: xs) H2
section
variable {X : Cx} {e : Expr} {es : List Expr} {te : TE} {t : TA} {pos : Pos}
theorem pa_nil : PA X [] tNil := fun _ _ _ _ H Q I h => Calls.spliced_nil ⟨[], H, I, .nil, h⟩
theorem pa_cons (ha : PE X e te) (hr : PA X es t) (hs : starEach (e :: es) X.env = (false, eval e X.env) :: starEach es X.env := by rfl) : PA X (e :: es) (tCons te t) := by
  intro pos pins s σ H Q I h
  rw [hs]
  show wpAny _ _ (spliced ((false, eval e X.env) :: backTo pos (starEach es X.env))) _ _ s
  refine Calls.spliced_cons (thn (ha pins s σ H _ I h) fun u s1 ⟨x, H1, I1, r1, q1⟩ => ?_)
  exact thn (hr pos pins s1 σ H1 _ I1 q1) fun us s2 ⟨xs, H2, I2, r2, q2⟩ => ⟨x :: xs, H2, I2, .cons r1 r2, q2⟩
def tTup (t : TA) : TE := fun σ H Q => t σ H fun xs H1 => xs.length ≤ sizeLine ∧ ∀ p, H1 p = none → Q (.ref p) (upd H1 p (.tup xs))
def tLst (t : TA) : TE := fun σ H Q => t σ H fun xs H1 => xs.length ≤ sizeLine ∧ ∀ p, H1 p = none → Q (.ref p) (upd H1 p (.lst xs))
theorem pe_tup {x1} (h : PA X es t) : PE X (.Tuple es x1 pos) (tTup t) := by
  intro pins s σ H Q I hq
  refine wpAny_Tuple_spliced (thn (h pos pins s σ H _ I hq) fun us s1 ⟨xs, H1, I1, r, z, q⟩ => ⟨by rw [← r.length]; exact z, ?_⟩)
  have hf : H1 s1.heap.objs.size = none := I1.hok.fresh (Nat.le_refl _)
  refine ⟨.ref s1.heap.objs.size, upd H1 s1.heap.objs.size (.tup xs), I1.laid (t' := s1.toks) (fun b u e => Heap.get?_push_of_some _ e) (Nat.le_refl _) ?_, rfl, q _ hf⟩
  exact ⟨z, us, r, ⟨_, Heap.get?_push_size _ rfl, rfl, ⟨_, rfl⟩, rfl⟩⟩
theorem pe_lst (h : PA X es t) : PE X (.List es pos) (tLst t) := by
  intro pins s σ H Q I hq
  refine wpAny_List_spliced (thn (h pos pins s σ H _ I hq) fun us s1 ⟨xs, H1, I1, r, z, q⟩ => ⟨by rw [← r.length]; exact z, ?_⟩)
  have hf : H1 s1.heap.objs.size = none := I1.hok.fresh (Nat.le_refl _)
  refine ⟨.ref s1.heap.objs.size, upd H1 s1.heap.objs.size (.lst xs), I1.laid (t' := s1.toks) (fun b u e => Heap.get?_push_of_some _ e) (Nat.le_refl _) ?_, rfl, q _ hf⟩
  exact ⟨z, us, 0, r, Heap.get?_push_size _ rfl⟩
end
abbrev Sp := List V → Hp → VK → XK → Prop
abbrev CXT := List Env → Hp → Shared → XK → Value → Shared → Prop
structure Env0 (P : Program) (w : World) (K : PySem.W.Frag) (mg : Str → Option Value) (base : Heap) (A : Around) (outer : List Env) (s : Shared) (H : Hp) : Prop where
  frames : A.frames = some outer
  mod : Mod K mg base
  bs : ∀ b o, base.get? b = some o → s.heap.get? b = some o ∧ H b = none
  bsz : base.objs.size ≤ s.heap.objs.size
  funs : s.heap.FunFrames base outer
  frf : ∀ b ∈ frs outer, H b = none
  hok : HOk P w H s.heap
  bare : AllBare s.gens
def CE (outer : List Env) (P : Program) (w : World) (H : Hp) (s : Shared) (Q : VK) (u : Value) (s' : Shared) : Prop :=
  ∃ v H', s'.os = s.os ∧ AllBare s'.gens ∧ Un (frs outer) [] H H' s.heap s'.heap ∧ HOk P w H' s'.heap ∧ RelV v u ∧ Q v H'
def CR (CX : CXT) (outer : List Env) (P : Program) (w : World) (H : Hp) (s : Shared) (Q : VK) (E : XK) (r : Result) (s' : Shared) : Prop :=
  match r with
  | .ok (.ret u) => CE outer P w H s Q u s'
  | .ok _ => False
  | .error e => CX outer H s E e s'
structure FnOk (P : Program) (w : World) (K : PySem.W.Frag) (mg : Str → Option Value) (base : Heap) (CX : CXT) (k : Nat) (f : Addr) (fd : FuncData) (ps : List Str) (sp : Sp) : Prop where
  len : ∀ vs H Q E, sp vs H Q E → vs.length = ps.length
  run : ∀ (A : Around) (outer : List Env) (s : Shared) (H : Hp) (args : Args) (us : List Value) (vs : List V) (Q : VK) (E : XK), Room k A → Env0 P w K mg base A outer s H → BindsTo s fd args (ps.zip us) → Vals vs us → sp vs H Q E →
    codeAny (model P w) A (.call (.ref f) args) (CR CX outer P w H s Q E) s
theorem FnOk.mono {P : Program} {w : World} {K : PySem.W.Frag} {mg : Str → Option Value} {base : Heap} {CX : CXT} {j k : Nat} {f : Addr} {fd : FuncData} {ps : List Str} {sp : Sp} (F : FnOk P w K mg base CX j f fd ps sp) (h : j ≤ k) :
    FnOk P w K mg base CX k f fd ps sp := ⟨F.len, fun A outer s H args us vs Q E hr => F.run A outer s H args us vs Q E (hr.mono h)⟩
theorem FnOk.imp {P : Program} {w : World} {K : PySem.W.Frag} {mg : Str → Option Value} {base : Heap} {CX : CXT} {k : Nat} {f : Addr} {fd : FuncData} {ps : List Str} {sp sp' : Sp} (F : FnOk P w K mg base CX k f fd ps sp)
    (h : ∀ vs H Q E, sp' vs H Q E → sp vs H Q E) : FnOk P w K mg base CX k f fd ps sp' :=
  ⟨fun vs H Q E q => F.len vs H Q E (h _ _ _ _ q), fun A outer s H args us vs Q E hr he hb hv hs => F.run A outer s H args us vs Q E hr he hb hv (h _ _ _ _ hs)⟩
theorem Env0.in1 {P : Program} {w : World} {K : PySem.W.Frag} {mg : Str → Option Value} {base : Heap} {A : Around} {outer : List Env} {s : Shared} {H : Hp} (e : Env0 P w K mg base A outer s H) :
    Env0 P w K mg base A.in1 outer s H := ⟨e.frames, e.mod, e.bs, e.bsz, e.funs, e.frf, e.hok, e.bare⟩
section
variable {X : Cx} {pins : List (Addr × Obj)} {σ : St} {H : Hp} {s s' : Shared}
theorem Inv.env0 (I : Inv X pins σ H s) : Env0 X.prog X.w X.K X.mg X.base X.A X.stack s H :=
  ⟨I.ok.frames, I.ok.mod, I.bs, Nat.le_trans I.ok.bsz I.sz, I.stack, I.stkFree, I.hok, I.bare⟩
theorem Inv.after {Q : VK} {u : Value} (I : Inv X pins σ H s) (h : CE X.stack X.prog X.w H s Q u s') : EP X pins σ Q u s' := by
  obtain ⟨v, H', os, bare, un, hok, r, q⟩ := h
  obtain ⟨hh, g, d, t, os'⟩ := s'
  obtain rfl : os' = s.os := os
  exact ⟨v, H', I.call (h' := hh) (g' := g) (d' := d) (t' := t) (ch := []) un hok bare (fun b z => absurd z (by simp)), r, q⟩
end
def tCall (sp : Sp) (dvs : List V) (E : XK) (t : TA) : TE := fun σ H Q => t σ H fun vs H1 => sp (vs ++ dvs) H1 Q E
def tMeth (C : Addr) (m : Str) (sp : Sp) (dvs : List V) (E : XK) (ta : TE) (t : TA) : TE := fun σ H Q => ta σ H fun x H1 => ∃ a dx fs, x = .ref a ∧ H1 a = some (.ins C dx fs) ∧ fs.lookup m = none ∧
  t σ H1 fun vs H2 => sp (x :: (vs ++ dvs)) H2 Q E
def tMake (C : Addr) (sp : Sp) (dvs : List V) (E : XK) (t : TA) : TE := fun σ H Q => t σ H fun vs H1 => ∀ x dx, H1 x = none → H1 dx = none → dx ≠ x →
  sp (.ref x :: (vs ++ dvs)) (upd (upd H1 dx (.own x)) x (.ins C dx [])) (fun v H2 => v = .non ∧ Q (.ref x) H2) E
def Binds (K : PySem.W.Frag) (fd : FuncData) (ps : List Str) (ds : List Value) : Prop :=
  ∀ (s : Shared) (us : List Value), K.In s.heap → (us ++ ds).length = ps.length → BindsTo s fd ⟨us, []⟩ (ps.zip (us ++ ds))
theorem Binds.all {K : PySem.W.Frag} {fd : FuncData} {ps : List Str} (h : ∀ us : List Value, us.length = ps.length → bindArgs fd ⟨us, []⟩ = pure (ps.zip us)) : Binds K fd ps [] := fun s us _ hl => by
  rw [List.append_nil] at hl ⊢
  exact .of_eq (h us hl)
def Passes (CX : CXT) (X : Cx) (E : XK) : Prop := ∀ (pins : List (Addr × Obj)) (σ : St) (H : Hp) (s : Shared) (e : Value) (s' : Shared), Inv X pins σ H s → CX X.stack H s E e s' → X.xe e s'
section
variable {X : Cx} {CX : CXT} {k : Nat} {f C : Addr} {fd : FuncData} {ps : List Str} {sp : Sp} {dvs : List V} {ds : List Value} {E : XK} {x m : Str} {p pos apos : Pos} {e o : Expr} {es : List Expr} {ta : TE} {t : TA}
theorem run_fn {pins : List (Addr × Obj)} {σ : St} {H : Hp} {s : Shared} {Q : VK} {us : List Value} {vs : List V} (F : FnOk X.prog X.w X.K X.mg X.base CX k f fd ps sp) (hr : Room k X.A) (hb : Binds X.K fd ps ds) (hd : Vals dvs ds) (hx : Passes CX X E)
    (I : Inv X pins σ H s) (r : Vals vs us) (h : sp (vs ++ dvs) H Q E) : wpAny (model X.prog X.w) X.A (call (.ref f) us) (EP X pins σ Q) X.xe s := by
  have r2 : Vals (vs ++ dvs) (us ++ ds) := r.append hd
  have hl : (us ++ ds).length = ps.length := by rw [← r2.length]; exact F.len _ _ _ _ h
  refine wpAny_call (codeAny_mono (F.run X.A X.stack s H ⟨us, []⟩ (us ++ ds) (vs ++ dvs) Q E hr I.env0 (hb s us I.kIn hl) r2 h) fun r s' hq => ?_)
  cases r with
  | error e => exact hx pins σ H s e s' I hq
  | ok fl =>
    cases fl with
    | ret u => exact I.after hq
    | next => exact False.elim hq
    | brk => exact False.elim hq
    | cont => exact False.elim hq
theorem pe_call (F : FnOk X.prog X.w X.K X.mg X.base CX k f fd ps sp) (hr : Room k X.A) (hg : Gl X x) (hm : X.mg x = some (.ref f)) (hk : PySem.W.keepIn X.K (.ref f) = true) (hb : Binds X.K fd ps ds) (hd : Vals dvs ds) (hx : Passes CX X E)
    (ha : PA X (e :: es) t) (hdb : (x == ("__debug__" : Str)) = false := by decide) (he : starEach (e :: es) X.env = (false, eval e X.env) :: starEach es X.env := by rfl) (hpl : (backTo pos (starEach es X.env)).any (·.1) = false := by rfl) :
    PE X (.Call (.Name x p) (e :: es) [] pos) (tCall sp dvs E t) := by
  intro pins s σ H Q I h
  refine wpAny_Call_Name_kw (ld_glob I hg hm ?_ hdb)
  refine PySem.W.callWith_K (h₀ := X.base) I.ok.mod.kin hk (thn (ha pos pins s σ H _ I h) fun us s1 ⟨vs, H1, I1, r, q⟩ => ⟨I1.kIn, ?_⟩) he hpl
  exact run_fn F hr hb hd hx I1 r q
structure Mk (K : PySem.W.Frag) (C f : Addr) : Prop where
  makes : PySem.W.makesIn K C = true
  init : PySem.W.findIn K (.ref C) "__init__" = some (some (.ref f))
  fn : PySem.W.isFn K (.ref f) = true
  kp : PySem.W.keepIn K (.ref C) = true
end
def PK (X : Cx) (kws : List Keyword) (t : TA) : Prop :=
  ∀ (pos : Pos) (pins : List (Addr × Obj)) (s : Shared) (σ : St) (H : Hp) (Q : List V → Hp → Prop), Inv X pins σ H s → t σ H Q → wpAny (model X.prog X.w) X.A (evalAll ((backToKw pos (keywordEach kws X.env)).map (·.2))) (AP X pins σ Q) X.xe s
section
variable {X : Cx} {CX : CXT} {k : Nat} {f C : Addr} {fd : FuncData} {ps ks : List Str} {sp : Sp} {E : XK} {x m : Str} {p pos apos kpos : Pos} {e o : Expr} {es : List Expr} {kws : List Keyword} {te ta : TE} {t tk : TA} {nm : Option Str}
structure KBinds (K : PySem.W.Frag) (fd : FuncData) (ps ks : List Str) (g : List Value → List Value → List Value) (gV : List V → List V → List V) : Prop where
  to : ∀ (s : Shared) (us ws : List Value), K.In s.heap → (g us ws).length = ps.length → BindsTo s fd ⟨us, ks.zip ws⟩ (ps.zip (g us ws))
  rel : ∀ {vs : List V} {us : List Value} {zs : List V} {ws : List Value}, Vals vs us → Vals zs ws → Vals (gV vs zs) (g us ws)
def tCallK (sp : Sp) (gV : List V → List V → List V) (E : XK) (t tk : TA) : TE := fun σ H Q => t σ H fun vs H1 => tk σ H1 fun zs H2 => sp (gV vs zs) H2 Q E
variable {g : List Value → List Value → List Value} {gV : List V → List V → List V}
end
structure FnScope (N P : List Str) (sc : Scope) : Prop where
  kind : sc.kind = .function
  co : sc.isCoroutine = false
  gen : sc.isGenerator = false
  nd : N.Nodup
  pre : N.take P.length = P
  par : ∀ x ∈ P, sc.names.lookup x = some .local ∨ sc.names.lookup x = some .cell
  nofree : ∀ y ∈ sc.names, y.2 ≠ .free
theorem bindL_out {kindOf : Str → Option NameKind} {x : Str} : ∀ {binds : List (Str × Value)} {m : Str → Option Value}, (∀ v, (x, v) ∉ binds) → bindL kindOf binds m x = m x
  | [], _, _ => rfl
  | (n, v) :: r, m, h => by
    unfold bindL
    rw [bindL_out fun w hw => h w (List.mem_cons_of_mem _ hw)]
    split
    · have : x ≠ n := by rintro rfl; exact h v List.mem_cons_self
      simp [this]
    · rfl
theorem bindC_out {kindOf : Str → Option NameKind} {x : Str} : ∀ {binds : List (Str × Value)} {m : Str → Option Value}, (∀ v, (x, v) ∉ binds) → bindC kindOf binds m x = m x
  | [], _, _ => rfl
  | (n, v) :: r, m, h => by
    unfold bindC
    rw [bindC_out fun w hw => h w (List.mem_cons_of_mem _ hw)]
    split
    · rfl
    · have : x ≠ n := by rintro rfl; exact h v List.mem_cons_self
      simp [this]
theorem bindL_get {kindOf : Str → Option NameKind} {x : Str} {v : Value} : ∀ {P : List Str} {vs : List Value} {i : Nat} {m : Str → Option Value}, P.Nodup → P[i]? = some x → vs[i]? = some v → kindOf x = some .local →
    bindL kindOf (P.zip vs) m x = some v
  | [], _, _, _, _, h, _, _ => by simp at h
  | _ :: _, [], _, _, _, _, h, _ => by simp at h
  | p :: P, w :: vs, 0, m, nd, h1, h2, hk => by
    simp at h1 h2; subst h1; subst h2
    show bindL kindOf ((p, w) :: P.zip vs) m p = _
    unfold bindL
    rw [bindL_out fun v hv => (List.nodup_cons.mp nd).1 (List.of_mem_zip hv).1, if_pos hk]
    simp
  | p :: P, w :: vs, i + 1, m, nd, h1, h2, hk => by
    show bindL kindOf ((p, w) :: P.zip vs) m x = _
    unfold bindL
    exact bindL_get (i := i) (List.nodup_cons.mp nd).2 (by simpa using h1) (by simpa using h2) hk
theorem bindC_get {kindOf : Str → Option NameKind} {x : Str} {v : Value} : ∀ {P : List Str} {vs : List Value} {i : Nat} {m : Str → Option Value}, P.Nodup → P[i]? = some x → vs[i]? = some v → kindOf x ≠ some .local →
    bindC kindOf (P.zip vs) m x = some v
  | [], _, _, _, _, h, _, _ => by simp at h
  | _ :: _, [], _, _, _, _, h, _ => by simp at h
  | p :: P, w :: vs, 0, m, nd, h1, h2, hk => by
    simp at h1 h2; subst h1; subst h2
    show bindC kindOf ((p, w) :: P.zip vs) m p = _
    unfold bindC
    rw [bindC_out fun v hv => (List.nodup_cons.mp nd).1 (List.of_mem_zip hv).1, if_neg hk]
    simp
  | p :: P, w :: vs, i + 1, m, nd, h1, h2, hk => by
    show bindC kindOf ((p, w) :: P.zip vs) m x = _
    unfold bindC
    exact bindC_get (i := i) (List.nodup_cons.mp nd).2 (by simpa using h1) (by simpa using h2) hk
def start (N : List Str) (vs : List V) : St := vs.map some ++ List.replicate (N.length - vs.length) none
def cxOf (CX : CXT) (P : Program) (w : World) (K : PySem.W.Frag) (mg : Str → Option Value) (base : Heap) (N : List Str) (qual : Str) (scope : Scope) (f : Addr) (cd : Value) (A : Around) (outer : List Env) (s : Shared) (H : Hp) (E : XK) : Cx where
  prog := P
  w := w
  K := K
  mg := mg
  base := base
  A := A.deeper (envOfC qual scope s.heap.objs.size f cd)
  N := N
  s₀ := s
  H₀ := H
  env := envOfC qual scope s.heap.objs.size f cd
  outer := outer
  stack := envOfC qual scope s.heap.objs.size f cd :: outer
  ex := []
  calm := true
  fn := fun _ => true
  pn := []
  xe := fun e s' => wpAny (model P w) (A.deeper (envOfC qual scope s.heap.objs.size f cd)) (leaving (envOfC qual scope s.heap.objs.size f cd) e) (fun _ s'' => CX outer H s E e s'') (fun e' s'' => CX outer H s E e' s'') s'
theorem cell_has {sc : Scope} {n : Nat} {x : Str} (h : sc.names.lookup x = some .cell) : ∃ c, (cellsFrom n sc.names []).lookup x = some c := by
  have q := PySem.W.cellsFrom_some sc.names n [] (.inl h)
  exact Option.isSome_iff_exists.mp q
theorem inv_start {CX : CXT} {P : Program} {w : World} {K : PySem.W.Frag} {mg : Str → Option Value} {base : Heap} {N ps : List Str} {qual : Str} {scope : Scope} {f : Addr} {cd : Value} {A : Around} {outer : List Env} {s s1 : Shared} {H : Hp} {E : XK} {us : List Value} {vs : List V}
    (S : FnScope N ps scope) (hd : A.handled = none) (e0 : Env0 P w K mg base A outer s H) (hl : vs.length = ps.length) (r : Vals vs us)
    (x : InCallC s s.heap.objs.size (bindL (envOfC qual scope s.heap.objs.size f cd).kindOf (ps.zip us) fun _ => none) (cellsFrom (s.heap.objs.size + 1) scope.names []) (bindC (envOfC qual scope s.heap.objs.size f cd).kindOf (ps.zip us) fun _ => none) s1) :
    Inv (cxOf CX P w K mg base N qual scope f cd A outer s H E) [] (start N vs) H s1 := by
  have hpl : ps.length ≤ N.length := by have := congrArg List.length S.pre; rw [List.length_take] at this; omega
  obtain ⟨h1, tk, rfl, hk⟩ := x.done
  have noA : ∀ b : Addr, b ∉ (cxOf CX P w K mg base N qual scope f cd A outer s H E).ex := fun b z => absurd (show b ∈ ([] : List Addr) from z) (by simp)
  refine ⟨⟨e0.mod, S.kind, rfl, rfl, Nat.le_refl _, fun y z c h1 h2 => ?_, fun y hy => ?_, fun y c _ h => ?_, fun _ => hd, Around.frames_deeper e0.frames, .inr ⟨rfl, rfl⟩, fun b z => absurd z (noA b), e0.bs, e0.bsz, fun b _ _ => noA b, fun b z => absurd z (noA b), e0.funs, e0.frf⟩,
    rfl, e0.bare, Un.kept hk, ⟨_, x.toInCall.ns, fun i y v h1 h2 h3 => ?_⟩, fun y c h => ⟨_, x.cell y c h⟩, e0.hok.fresh (Nat.le_refl _), fun y c h => ?_, fun p hp => absurd (show p ∈ ([] : List (Addr × Obj)) from hp) (by simp), e0.hok.kept hk, ?_⟩
  · exact name_of_addr x.apart (PySem.mem_of_lookup h1) (PySem.mem_of_lookup h2)
  · have hy : scope.names.lookup y = some .cell ∨ scope.names.lookup y = some .free := hy
    rcases hy with hy | hy
    · exact cell_has hy
    · exact absurd rfl (S.nofree _ (PySem.mem_of_lookup hy))
  · exact Nat.le_of_lt (x.above y c (PySem.mem_of_lookup h))
  · have hi : i < vs.length := by
      unfold start at h2
      by_cases hi : i < vs.length
      · exact hi
      · rw [List.getElem?_append_right (by simpa using hi)] at h2
        rw [List.getElem?_replicate] at h2
        split at h2 <;> cases h2
    have ha : vs[i]? = some v := by
      unfold start at h2
      rw [List.getElem?_append_left (by simpa using hi), List.getElem?_map] at h2
      cases e : vs[i]? with
      | none => rw [e] at h2; cases h2
      | some a => rw [e] at h2; cases h2; rfl
    obtain ⟨u, hu, rv⟩ := r.get ha
    have hp : ps[i]? = some y := by
      rw [← S.pre, List.getElem?_take_of_lt (by omega)]; exact h1
    have ndP : ps.Nodup := by rw [← S.pre]; exact S.nd.sublist (List.take_sublist _ _)
    refine ⟨u, rv, ?_⟩
    rcases S.par y (List.mem_of_getElem? hp) with k | k
    · exact .inl ⟨k, bindL_get ndP hp hu k⟩
    · obtain ⟨c, e⟩ := cell_has (n := s.heap.objs.size + 1) k
      refine .inr ⟨.inl k, c, e, ?_⟩
      have q := x.cell y c e
      rw [bindC_get ndP hp hu (by show scope.names.lookup y ≠ _; rw [k]; decide)] at q
      exact q
  · exact e0.hok.fresh (Nat.le_of_lt (x.above y c (PySem.mem_of_lookup h)))
  · unfold start
    show _ = N.length
    rw [List.length_append, List.length_map, List.length_replicate]
    omega
theorem fn_of {CX : CXT} {P : Program} {w : World} {K : PySem.W.Frag} {mg : Str → Option Value} {base : Heap} {k : Nat} {f : Addr} {name qual : Str} {params : Arguments} {body : List Stmt} {scope : Scope} {dV kV doc pm cdv ct oc : Value} {an od : Option Addr}
    {osl : Array (Option Value)} {N ps : List Str} {sp : Sp} (lk : K.lookup f = some ⟨oc, od, .func (PySem.W.fnOf name qual params body scope dV kV doc pm an cdv ct), osl⟩) (hcd : PySem.W.codeIn K cdv qual = true) (S : FnScope N ps scope)
    (len : ∀ vs H Q E, sp vs H Q E → vs.length = ps.length)
    (hbody : ∀ (A : Around) (outer : List Env) (s : Shared) (H : Hp) (vs : List V) (Q : VK) (E : XK), Room k (A.deeper (envOfC qual scope s.heap.objs.size f cdv)) → sp vs H Q E →
      ∃ t, PSs (cxOf CX P w K mg base N qual scope f cdv A outer s H E) body t ∧ t { nx := fun _ H' => Q .non H', rt := Q } (start N vs) H) :
    FnOk P w K mg base CX (k + 1) f (PySem.W.fnOf name qual params body scope dV kV doc pm an cdv ct) ps sp := by
  refine ⟨len, fun A outer s H args us vs Q E hr e0 hb r hsp => ?_⟩
  have hl := len _ _ _ _ hsp
  have KX : K.In s.heap := e0.mod.kin.keeps fun b o e => (e0.bs b o e).1
  have lim : s.heap.NoLimit := e0.mod.nolimit.keeps fun b o e => (e0.bs b o e).1
  have hkind : ∀ y ∈ ps.zip us, scope.names.lookup y.1 = some .local ∨ (scope.names.lookup y.1 = some .cell ∧ ((cellsFrom (s.heap.objs.size + 1) scope.names []).lookup y.1).isSome = true) := fun ⟨n, v⟩ hy => by
    rcases S.par n (List.of_mem_zip hy).1 with q | q
    · exact .inl q
    · exact .inr ⟨q, PySem.W.cellsFrom_some _ _ _ (.inl q)⟩
  refine codeAny_call_function hr.depth (KX _ _ lk) rfl S.co S.gen rfl (PySem.W.codeRec_of KX hcd) (hb _ _ _ _ ?_)
  refine wpAny_newFunctionEnv_cells S.kind hkind fun env he s1 x => ?_
  subst he
  refine ⟨lim.keeps x.toInCall.keep, codeAny_func ?_⟩
  obtain ⟨t, ht, hq⟩ := hbody A outer s H vs Q E (hr.deeper _) hsp
  have I : Inv (cxOf CX P w K mg base N qual scope f cdv A outer s H E) [] (start N vs) H s1 := inv_start S hr.hd e0 hl r x
  refine wpAny_mono (ht [] s1 (start N vs) H _ I hq) (fun fl s' hs => ?_) fun e s' hs => hs
  have fin : ∀ {σ' : St} {H' : Hp} {v : V} {u : Value}, Inv (cxOf CX P w K mg base N qual scope f cdv A outer s H E) [] σ' H' s' → RelV v u → Q v H' → CE outer P w H s Q u s' :=
    fun {σ' H' v u} J rv q => ⟨v, H', J.os, J.bare, J.base, J.hok, rv, q⟩
  cases fl with
  | ret u =>
    obtain ⟨v, σ', H', J, rv, q⟩ := hs
    exact fin J rv q
  | next =>
    obtain ⟨σ', H', J, q⟩ := hs
    exact fin (v := V.non) (u := Value.none) J rfl q
  | brk =>
    obtain ⟨_, _, _, q⟩ := hs
    exact False.elim q
  | cont =>
    obtain ⟨_, _, _, q⟩ := hs
    exact False.elim q
end L2
namespace L2
open PySem PySem.Spec PyProof.Rows
section
variable {X : Cx} {x : Str} {p pos : Pos} {e : Expr} {es : List Expr} {t : TA} {id T : String} {r : List V → Hp → VK → Prop}
def tCB (r : List V → Hp → VK → Prop) (t : TA) : TE := fun σ H Q => t σ H fun vs H1 => r vs H1 Q
theorem pe_callB (hc : CallR X (.builtin id) r) (hg : Gl X x) (hm : X.mg x = none) (hv : bootBuiltins x = some (.builtin id)) (ha : PA X (e :: es) t) (hn : x ≠ "__name__" := by decide) (hdb : (x == ("__debug__" : Str)) = false := by decide)
    (he : starEach (e :: es) X.env = (false, eval e X.env) :: starEach es X.env := by rfl) (hpl : (backTo pos (starEach es X.env)).any (·.1) = false := by rfl) : PE X (.Call (.Name x p) (e :: es) [] pos) (tCB r t) := by
  intro pins s σ H Q I h
  refine wpAny_Call_Name_kw (ld_blt I hg hm hv ?_ hn hdb)
  exact PyProof.Rows.callWith_builtin1 (thn (ha pos pins s σ H _ I h) fun us s1 ⟨vs, H1, I1, r1, q1⟩ => hc pins s1 σ H1 vs us Q I1 r1 q1) he hpl
theorem pe_callTy (hc : CallR X (.type T) r) (hg : Gl X x) (hm : X.mg x = none) (hv : bootBuiltins x = some (.type T)) (ha : PA X (e :: es) t) (hn : x ≠ "__name__" := by decide) (hdb : (x == ("__debug__" : Str)) = false := by decide)
    (he : starEach (e :: es) X.env = (false, eval e X.env) :: starEach es X.env := by rfl) (hpl : (backTo pos (starEach es X.env)).any (·.1) = false := by rfl) : PE X (.Call (.Name x p) (e :: es) [] pos) (tCB r t) := by
  intro pins s σ H Q I h
  refine wpAny_Call_Name_kw (ld_blt I hg hm hv ?_ hn hdb)
  exact PyProof.Rows.callWith_type1 (thn (ha pos pins s σ H _ I h) fun us s1 ⟨vs, H1, I1, r1, q1⟩ => hc pins s1 σ H1 vs us Q I1 r1 q1) he hpl
end
end L2
namespace HT
open PySem PyProof.Rows
def lexLt : List Int → List Int → Bool
  | [], [] => false
  | [], _ :: _ => true
  | _ :: _, [] => false
  | x :: xs, y :: ys => if x = y then lexLt xs ys else decide (x < y)
section
open PySem.SeqAt
open PySem.AutoSeq1 (wpAny_loadPart')
open PySem.MeetsSeq PySem.MeetsSeq2 PySem.MeetsSeq3
end
section
variable {prog : Program} {w : World} {A : Around} {E : Value → Shared → Prop} {s : Shared}
theorem cat_tup {t b : Addr} {vs ws : List Value} {Q : Value → Shared → Prop} (ht : IsTup s.heap t vs.toArray) (hb : IsTup s.heap b ws.toArray) (hv : vs ≠ [])
    (h1 : ws = [] → Q (.ref t) s) (h2 : ws ≠ [] → Q (.ref s.heap.objs.size) { s with heap := s.heap.push { cls := .type "tuple", data := .seq (vs ++ ws).toArray } })
    (hsz : vs.length + ws.length ≤ sizeLine) : wpAny (model prog w) A (binaryOp .Add (.ref t) (.ref b)) Q E s := by
  obtain ⟨⟨cls, dd, data, sl⟩, ho, hc, n, hd⟩ := id ht
  obtain ⟨⟨cls2, dd2, data2, sl2⟩, ho2, hc2, n2, hd2⟩ := id hb
  simp only at hc hd hc2 hd2
  subst hc hd hc2 hd2
  have e : vs.toArray ++ ws.toArray = (vs ++ ws).toArray := by simp
  by_cases hw : ws = []
  · exact concat_meets ⟨_, ho, rfl⟩ ⟨_, ho2, rfl⟩ noFill_tuple_add seq_tuple_add PySem.F.slot_tuple_add PySem.F.entry_tuple_add (PySem.F.args_tuple_add_2 _ _)
      (tuple_addW1 t b vs.toArray ws.toArray n n2 dd dd2 sl sl2 (by simpa using hv) (by simp [hw])) ⟨ho, ho2, h1 hw⟩
  · refine concat_meets ⟨_, ho, rfl⟩ ⟨_, ho2, rfl⟩ noFill_tuple_add seq_tuple_add PySem.F.slot_tuple_add PySem.F.entry_tuple_add (PySem.F.args_tuple_add_2 _ _)
      (tuple_addW2 t b vs.toArray ws.toArray n n2 dd dd2 sl sl2 (by simpa using hv) (by simpa using hw) (by rw [List.size_toArray, List.size_toArray]; exact hsz)) ⟨ho, ho2, ?_⟩
    rw [e]
    exact h2 hw
def sIx (n d : Nat) : Option Int → Nat
  | none => d
  | some v => if v < 0 then (v + (n : Int)).toNat else min v.toNat n
theorem sIx_none (n d : Nat) : sIx n d none = d := rfl
theorem sIx_nat (n d k : Nat) : sIx n d (some (k : Int)) = min k n := by
  show (if (k : Int) < 0 then ((k : Int) + (n : Int)).toNat else min (k : Int).toNat n) = min k n
  rw [if_neg (by omega), Int.toNat_natCast]
theorem sIx_le (n d : Nat) (hd : d ≤ n) (o : Option Int) : sIx n d o ≤ n := by
  cases o with
  | none => exact hd
  | some v =>
    show (if v < 0 then (v + (n : Int)).toNat else min v.toNat n) ≤ n
    by_cases hv : v < 0
    · rw [if_pos hv]; omega
    · rw [if_neg hv]; exact Nat.min_le_right _ _
theorem clip_eq (v : Int) (n d : Nat) : (if v < 0 then max (v + (n : Int)) 0 else min v (n : Int)) = ((sIx n d (some v) : Nat) : Int) := by
  show (if v < 0 then max (v + (n : Int)) 0 else min v (n : Int)) = (((if v < 0 then (v + (n : Int)).toNat else min v.toNat n) : Nat) : Int)
  by_cases hv : v < 0
  · simp only [if_pos hv]; omega
  · simp only [if_neg hv]; omega
theorem adjust_gen (lo hi : Option Int) (n : Nat) : Builtin.Slice.sliceAdjust lo hi 1 (n : Int) = (((sIx n 0 lo : Nat) : Int), ((sIx n n hi : Nat) : Int)) := by
  have h1 : ¬ ((1 : Int) < 0) := by omega
  unfold Builtin.Slice.sliceAdjust
  simp only [h1, if_false]
  refine Prod.ext ?_ ?_
  · cases lo with
    | none => rfl
    | some v => exact clip_eq v n 0
  · cases hi with
    | none => rfl
    | some v => exact clip_eq v n n
theorem places_gen (i j : Nat) : Builtin.Slice.slicePlaces (i : Int) (j : Int) 1 = j - i := by
  unfold Builtin.Slice.slicePlaces
  have h1 : (1 : Int) > 0 := by omega
  simp only [h1, if_true, Int.ediv_one]
  split <;> omega
theorem slicePart_ {v : Value} {o : Option Int} {Q : Option Int → Shared → Prop} (p : IsPart v o) (h : Q o s) : wpAny (model prog w) A (Builtin.Slice.slicePartIndex v) Q E s := by
  cases p with
  | none => exact slicePart_none h
  | int i t => exact slicePart_int h
theorem sliceApplied_gen {sl : Addr} {vl vu : Value} {lo hi : Option Int} {n : Nat} {Q : Int × Int × Nat → Shared → Prop} (hs : s.heap.IsSliceOf sl vl vu .none) (pl : IsPart vl lo) (pu : IsPart vu hi)
    (h : Q (((sIx n 0 lo : Nat) : Int), 1, sIx n n hi - sIx n 0 lo) s) : wpAny (model prog w) A (Builtin.Slice.sliceApplied (.ref sl) (pure (n : Int))) Q E s := by
  obtain ⟨os, hos, hcs, hds⟩ := id hs
  unfold Builtin.Slice.sliceApplied Builtin.Slice.sliceFields
  refine wpAny_bind (wpAny_bind (wpAny_field hos hds (x := vl) rfl (wpAny_bind (wpAny_field hos hds (x := vu) rfl (wpAny_bind (wpAny_field hos hds (x := .none) rfl (wpAny_pure ?_)))))))
  refine wpAny_bind (slicePart_none ?_)
  show wpAny _ _ (if ((1 : Int) == 0) = true then _ else _) _ _ s
  rw [if_neg (by decide)]
  refine wpAny_bind (slicePart_ pl (wpAny_bind (slicePart_ pu (wpAny_bind (wpAny_pure ?_)))))
  show wpAny _ _ (match Builtin.Slice.sliceAdjust lo hi 1 (n : Int) with | (lo, hi) => pure (lo, (1 : Int), Builtin.Slice.slicePlaces lo hi 1)) _ _ s
  rw [adjust_gen lo hi n]
  show wpAny _ _ (pure (((sIx n 0 lo : Nat) : Int), (1 : Int), Builtin.Slice.slicePlaces ((sIx n 0 lo : Nat) : Int) ((sIx n n hi : Nat) : Int) 1)) _ _ s
  rw [places_gen]
  exact wpAny_pure h
theorem pick_gen (xs : Array Value) (i k : Nat) : ((List.range k).filterMap fun (m : Nat) => xs[((i : Int) + (m : Int) * 1).toNat]?).toArray = ((xs.toList.drop i).take k).toArray := by
  have e : (fun (m : Nat) => xs[((i : Int) + (m : Int) * 1).toNat]?) = fun m => xs[i + m]? := by
    funext m
    have : ((i : Int) + (m : Int) * 1).toNat = i + m := by omega
    rw [this]
  rw [e]
  have := pick_run xs i k
  rw [List.filterMap_map] at this
  have e2 : ((fun x => xs[x]?) ∘ fun x => i + x) = fun m => xs[i + m]? := rfl
  rw [e2] at this
  rw [this]
theorem getItem_tuple_cut {t sl : Addr} {items : Array Value} {vl vu : Value} {lo hi : Option Int} {Q : Value → Shared → Prop} (ht : IsTup s.heap t items) (hs : s.heap.IsSliceOf sl vl vu .none) (pl : IsPart vl lo) (pu : IsPart vu hi)
    (hw : ¬ (sIx items.size 0 lo = 0 ∧ sIx items.size items.size hi = items.size))
    (h : Q (.ref s.heap.objs.size) { s with heap := s.heap.push { cls := .type "tuple", data := .seq ((items.toList.drop (sIx items.size 0 lo)).take (sIx items.size items.size hi - sIx items.size 0 lo)).toArray } })
    (hsz : items.size ≤ sizeLine) : wpAny (model prog w) A (getItem (.ref t) (.ref sl)) Q E s := by
  have htake : sizeOk (.seq ((items.toList.drop (sIx items.size 0 lo)).take (sIx items.size items.size hi - sIx items.size 0 lo)).toArray) := by
    show ((items.toList.drop (sIx items.size 0 lo)).take (sIx items.size items.size hi - sIx items.size 0 lo)).toArray.size ≤ sizeLine
    rw [List.size_toArray, List.length_take, List.length_drop, Array.length_toList]
    omega
  have hj : sIx items.size items.size hi ≤ items.size := sIx_le _ _ (Nat.le_refl _) hi
  obtain ⟨os, hos, hcs, hds⟩ := id hs
  have hTs : s.TypeIs (.ref sl) "slice" := ⟨os, hos, hcs⟩
  unfold getItem
  try with_reducible refine wpAny_holding ?_
  first | refine wpAny_bind (wpAny_pure ?_) | skip
  refine wpAny_bind (wpAny_sequenceKey ht.typeIs (by decide) ?_)
  refine wpAny_bind (wpAny_callSpecial?_slot (name := Str.ofString "__getitem__") ht.typeIs PyProof.Rows.slot_tuple_getitem
    (wpAny_call_entry PyProof.Rows.slot_tuple_getitem ht.typeIs entry_tuple_getitem ?_ (args_tuple_getitem _ _)))
  show wpAny _ _ (Builtin.Tuple.tupleItemsOf (.ref t) >>= _) _ _ s
  refine wpAny_bind (tupleItemsOf_ ht ?_)
  refine wpAny_bind (wpAny_typeOf hTs ?_)
  rw [if_pos (by decide)]
  refine wpAny_bind (sliceApplied_gen hs pl pu ?_)
  have hno : ¬ ((((sIx items.size 0 lo : Nat) : Int) == 0 && (1 : Int) == 1 && (sIx items.size items.size hi - sIx items.size 0 lo) == items.size) = true) := by
    intro q
    rw [Bool.and_eq_true, Bool.and_eq_true] at q
    have q1 : ((sIx items.size 0 lo : Nat) : Int) = 0 := eq_of_beq q.1.1
    have q2 : sIx items.size items.size hi - sIx items.size 0 lo = items.size := eq_of_beq q.2
    exact hw ⟨by omega, by omega⟩
  show wpAny _ _ (if (((sIx items.size 0 lo : Nat) : Int) == 0 && (1 : Int) == 1 && (sIx items.size items.size hi - sIx items.size 0 lo) == items.size) = true then _ else _) _ _ s
  rw [if_neg hno, pick_gen]
  first
    | exact wpAny_bind (m := Builtin.Tuple.tupleExact _) (wpAny_newObj_type (wpAny_pure ⟨_, rfl, wpAny_pure h⟩) htake)
    | exact wpAny_bind (m := Builtin.Tuple.tupleExact _) (wpAny_newObj_type (wpAny_bind (wpAny_pure (wpAny_pure ⟨_, rfl, wpAny_pure h⟩))) htake)
    | exact wpAny_bind (wpAny_bind (m := Builtin.Tuple.tupleExact _) (wpAny_newObj_type (wpAny_pure (wpAny_pure ⟨_, rfl, wpAny_pure h⟩)) htake))
    | exact wpAny_bind (wpAny_bind (m := Builtin.Tuple.tupleExact _) (wpAny_newObj_type (wpAny_pure ⟨_, rfl, wpAny_pure h⟩) htake))
end
end HT
namespace L2
open PySem PySem.Spec PyProof.Rows
abbrev TO := St → Hp → (Option Int → Hp → Prop) → Prop
def PO (X : Cx) (e : Option Expr) (t : TO) : Prop :=
  ∀ (pins : List (Addr × Obj)) (s : Shared) (σ : St) (H : Hp) (Q : Option Int → Hp → Prop), Inv X pins σ H s → t σ H Q →
    wpAny (model X.prog X.w) X.A (evalPart e X.env) (fun u s' => ∃ o H', Inv X pins σ H' s' ∧ IsPart u o ∧ Q o H') X.xe s
def tNoPart : TO := fun _ H Q => Q none H
def tPart (t : TE) : TO := fun σ H Q => t σ H fun x H1 => ∃ i, x = .int i ∧ Q (some i) H1
theorem intsAre_of {ns : List Int} : ∀ {us : List Value}, Vals (ns.map V.int) us → IntsAre us ns := by
  induction ns with
  | nil => intro us r; rw [List.map_nil] at r; cases r; exact .nil
  | cons n ns ih =>
    intro us r
    rw [List.map_cons] at r
    cases r with
    | cons r1 r2 =>
      obtain ⟨t, e⟩ := r1
      subst e
      exact .cons n t (ih r2)
section
variable {X : Cx} {e : Expr} {te : TE} {lo hi : Option Expr} {tl th : TO} {pos p2 : Pos}
theorem po_none : PO X none tNoPart := by
  intro pins s σ H Q I h
  rw [evalPart_none]
  exact wpAny_pure ⟨none, H, I, .none, h⟩
theorem po_some (h : PE X e te) : PO X (some e) (tPart te) := by
  intro pins s σ H Q I hw
  rw [evalPart_some]
  refine thn (h pins s σ H _ I hw) fun u s1 ⟨x, H1, I1, r1, q1⟩ => ?_
  obtain ⟨i, rfl, q⟩ := q1
  obtain ⟨t, rfl⟩ := r1
  exact ⟨some i, H1, I1, .int i t, q⟩
def SlR (X : Cx) (r : V → Option Int → Option Int → Hp → VK → Prop) : Prop :=
  ∀ (pins : List (Addr × Obj)) (s : Shared) (σ : St) (H : Hp) (x : V) (v vl vu : Value) (lo hi : Option Int) (sl : Addr) (Q : VK), Inv X pins σ H s → RelV x v → s.heap.IsSliceOf sl vl vu .none → IsPart vl lo → IsPart vu hi → r x lo hi H Q →
    ∃ T id, typeLookup (.type T) "__getitem__" = pure (some (.builtin id)) ∧ s.TypeIs v T ∧ wpAny (model X.prog X.w) X.A (getItem v (.ref sl)) (EP X pins σ Q) X.xe s
def tSl (r : V → Option Int → Option Int → Hp → VK → Prop) (te : TE) (tl th : TO) : TE := fun σ H Q => te σ H fun x H1 => tl σ H1 fun l H2 => th σ H2 fun u H3 => r x l u H3 Q
theorem pe_slice {r : V → Option Int → Option Int → Hp → VK → Prop} (hr : SlR X r) (he : PE X e te) (hl : PO X lo tl) (hu : PO X hi th) : PE X (.Subscript e (.Slice lo hi none p2) pos) (tSl r te tl th) := by
  intro pins s σ H Q I h
  refine Subscript_ (thn (he pins s σ H _ I h) fun v s1 ⟨x, H1, I1, r1, q1⟩ => ?_)
  refine wpAny_Slice (thn (hl pins s1 σ H1 _ I1 q1) fun vl s2 ⟨l, H2, I2, pl, q2⟩ => thn (hu pins s2 σ H2 _ I2 q2) fun vu s3 ⟨u, H3, I3, pu, q3⟩ => ?_)
  rw [evalPart_none]
  refine wpAny_pure ?_
  have I4 : Inv X pins σ H3 { s3 with heap := s3.heap.push { cls := .type "slice", data := .fields #[vl, vu, .none] } } := I3.kept (t' := s3.toks) fun b ob q => Heap.get?_push_of_some _ q
  obtain ⟨T, id, hT, ht, hg⟩ := hr pins { s3 with heap := s3.heap.push { cls := .type "slice", data := .fields #[vl, vu, .none] } } σ H3 x v vl vu l u s3.heap.objs.size Q I4 r1 (Heap.IsSliceOf.new ..) pl pu q3
  show wpAny (model X.prog X.w) X.A (subscriptTail e (.Slice lo hi none p2) v (.ref s3.heap.objs.size)) (EP X pins σ Q) X.xe { s3 with heap := s3.heap.push { cls := .type "slice", data := .fields #[vl, vu, .none] } }
  exact tail_any (ops := [.ref s3.heap.objs.size, v]) ht hT hg (by with_unfolding_all rfl)
def cutV (xs : List V) (lo hi : Option Int) : List V := (xs.drop (HT.sIx xs.length 0 lo)).take (HT.sIx xs.length xs.length hi - HT.sIx xs.length 0 lo)
theorem cutV_length (xs : List V) (lo hi : Option Int) : (cutV xs lo hi).length ≤ xs.length := by
  unfold cutV
  rw [List.length_take, List.length_drop]
  omega
def rSlT (K : PySem.W.Frag) : V → Option Int → Option Int → Hp → VK → Prop := fun x lo hi H Q => ∃ a xs, x = .ref a ∧ SqT K H a xs ∧
  ¬ (HT.sIx xs.length 0 lo = 0 ∧ HT.sIx xs.length xs.length hi = xs.length) ∧ ∀ p, H p = none → Q (.ref p) (upd H p (.tup (cutV xs lo hi)))
theorem sl_tup : SlR X (rSlT X.K) := by
  intro pins s σ H x v vl vu lo hi sl Q I rx hs pl pu h
  obtain ⟨a, xs, rfl, hx, hw, q⟩ := h
  cases rx
  obtain ⟨its, r, ht, hz⟩ := I.tuple hx
  have hlen : its.toArray.size = xs.length := by rw [List.size_toArray]; exact r.length.symm
  refine ⟨"tuple", _, PyProof.Rows.slot_tuple_getitem.lookup, ht.typeIs, ?_⟩
  refine HT.getItem_tuple_cut ht hs pl pu (by rw [hlen]; exact hw) ?_ (by rw [hlen]; exact hz)
  rw [hlen]
  refine ⟨.ref s.heap.objs.size, _, I.laid (t' := s.toks) (o := .tup (cutV xs lo hi)) (fun b ob q => Heap.get?_push_of_some _ q) (Nat.le_refl _) ?_, rfl, q _ (I.hok.fresh (Nat.le_refl _))⟩
  exact ⟨Nat.le_trans (cutV_length xs lo hi) hz, _, (r.drop (HT.sIx xs.length 0 lo)).take (HT.sIx xs.length xs.length hi - HT.sIx xs.length 0 lo), IsTupN.new _ _⟩
def rLtT (K : PySem.W.Frag) : R2 := fun x y H Q => ∃ a b ns ms, x = .ref a ∧ y = .ref b ∧ SqT K H a (ns.map V.int) ∧ SqT K H b (ms.map V.int) ∧ Q (.bl (HT.lexLt ns ms)) H
def rCatT (K : PySem.W.Frag) : R2 := fun x y H Q => ∃ a b xs ys, x = .ref a ∧ y = .ref b ∧ SqT K H a xs ∧ SqT K H b ys ∧ xs ≠ [] ∧ xs.length + ys.length ≤ sizeLine ∧
  (ys = [] → Q (.ref a) H) ∧ (ys ≠ [] → ∀ p, H p = none → Q (.ref p) (upd H p (.tup (xs ++ ys))))
theorem Vals.nil_iff {xs : List V} {us : List Value} (r : Vals xs us) : us = [] ↔ xs = [] := by
  cases r with
  | nil => simp
  | cons _ _ => simp
end
end L2
namespace L2
open PySem PySem.Spec PyProof.Rows
def ixN (n : Nat) (i : Int) : Option Nat := if 0 ≤ i then (if i < n then some i.toNat else none) else if -(n : Int) ≤ i then some (i + n).toNat else none
def atI {α : Type} (xs : List α) (i : Int) : Option α := (ixN xs.length i).bind fun j => xs[j]?
theorem ixN_seq {n : Nat} {i : Int} {j : Nat} (h : ixN n i = some j) : seqIndex? i n = some j ∧ j < n ∧ -(n : Int) ≤ i ∧ i < n := by
  unfold ixN at h
  by_cases h0 : 0 ≤ i
  · rw [if_pos h0] at h
    by_cases h1 : i < n
    · rw [if_pos h1] at h
      have e : i.toNat = j := Option.some.inj h
      exact ⟨by rw [seqIndex_of h0 h1, e], by omega, by omega, h1⟩
    · rw [if_neg h1] at h; cases h
  · rw [if_neg h0] at h
    by_cases h1 : -(n : Int) ≤ i
    · rw [if_pos h1] at h
      have e : (i + n).toNat = j := Option.some.inj h
      exact ⟨by rw [seqIndex_neg (by omega) h1, e], by omega, h1, by omega⟩
    · rw [if_neg h1] at h; cases h
theorem atI_get {α : Type} {xs : List α} {i : Int} {v : α} (h : atI xs i = some v) : ∃ j, seqIndex? i xs.length = some j ∧ xs[j]? = some v ∧ j < xs.length ∧ -(xs.length : Int) ≤ i ∧ i < xs.length := by
  unfold atI at h
  cases e : ixN xs.length i with
  | none => rw [e] at h; cases h
  | some j =>
    rw [e] at h
    obtain ⟨h1, h2, h3, h4⟩ := ixN_seq e
    exact ⟨j, h1, h, h2, h3, h4⟩
theorem atI_nat {α : Type} {xs : List α} {j : Nat} {v : α} (h : xs[j]? = some v) : atI xs (j : Int) = some v := by
  have hj : j < xs.length := (List.getElem?_eq_some_iff.mp h).1
  have e : ixN xs.length (j : Int) = some j := by
    unfold ixN
    rw [if_pos (by omega), if_pos (by omega)]; simp
  unfold atI; rw [e]; exact h
theorem atI_last {α : Type} (xs : List α) (v : α) : atI (xs ++ [v]) (-1) = some v := by
  have hl : (xs ++ [v]).length = xs.length + 1 := by simp
  have e : ixN (xs ++ [v]).length (-1) = some xs.length := by
    unfold ixN
    rw [hl, if_neg (by decide), if_pos (by omega)]
    congr 1
    omega
  unfold atI
  rw [e]
  show (xs ++ [v])[xs.length]? = some v
  simp
def PlainIx (b : Expr) : Prop := ∀ o i, subscripted b false o i = operate [o, i] (getItem o i)
def IxR (X : Cx) (r : R2) : Prop :=
  ∀ (value slice : Expr) (pins : List (Addr × Obj)) (s : Shared) (σ : St) (H : Hp) (x y : V) (v u : Value) (Q : VK), Inv X pins σ H s → RelV x v → RelV y u → r x y H Q →
    subscripted slice false v u = operate [v, u] (getItem v u) → wpAny (model X.prog X.w) X.A (subscriptTail value slice v u) (EP X pins σ Q) X.xe s
def MtR (X : Cx) (id : String) (r : V → List V → Hp → VK → Prop) : Prop :=
  ∀ (pins : List (Addr × Obj)) (s : Shared) (σ : St) (H : Hp) (x : V) (xs : List V) (v : Value) (us : List Value) (Q : VK), Inv X pins σ H s → RelV x v → Vals xs us → r x xs H Q →
    wpAny (model X.prog X.w) X.A (call (.builtin id) (v :: us)) (EP X pins σ Q) X.xe s
section
variable {X : Cx} {a b : Expr} {ta tb : TE} {pos : Pos}
theorem pe_ix {r : R2} (hr : IxR X r) (ha : PE X a ta) (hb : PE X b tb) (hs : PlainIx b) : PE X (.Subscript a b pos) (tOp r ta tb) := by
  intro pins s σ H Q I h
  exact Subscript_ (binT ha hb I h fun v u s2 x y H2 I2 rx ry q => hr a b pins s2 σ H2 x y v u Q I2 rx ry q (hs _ _))
def rIxL (K : PySem.W.Frag) : R2 := fun x y H Q => ∃ p xs i v, x = .ref p ∧ y = .int i ∧ SqL K H p xs ∧ atI xs i = some v ∧ Q v H
def rIxT (K : PySem.W.Frag) : R2 := fun x y H Q => ∃ p xs i v, x = .ref p ∧ y = .int i ∧ SqT K H p xs ∧ atI xs i = some v ∧ Q v H
def rIxS : R2 := fun x y H Q => ∃ z i c, x = .str z ∧ y = .int i ∧ z.length ≤ sizeLine ∧ atI z.cps.toList i = some c ∧ Q (.str ⟨#[c]⟩) H
theorem ix_list : IxR X (rIxL X.K) := by
  intro value slice pins s σ H x y v u Q I rx ry h hs
  obtain ⟨p, xs, i, z, rfl, rfl, hq, he, q⟩ := h
  cases rx
  obtain ⟨t, rfl⟩ := ry
  obtain ⟨its, r, pl, hz⟩ := I.list hq
  obtain ⟨j, h1, h2, h3, h4, h5⟩ := atI_get he
  obtain ⟨w, ew, rw'⟩ := r.get h2
  have hl := r.length
  have hn := line63
  have fin : EP X pins σ Q w s := ⟨z, H, I, rw', q⟩
  by_cases h0 : 0 ≤ i
  · have hj : i.toNat = j := by
      rw [seqIndex_of h0 h5] at h1
      exact Option.some.inj h1
    exact item_listR pl.isList h0 (by omega) (by rw [hj]; simpa using ew) fin hs
  · have hj : (i + (its.toArray.size : Int)).toNat = j := by
      rw [seqIndex_neg (by omega) h4] at h1
      rw [List.size_toArray, ← hl]
      exact Option.some.inj h1
    exact subscriptTail_builtinR (x := w) pl.isList.typeIs slot_list_getitem.lookup
      (wpAny_getItem_list_neg (Q := fun r s' => r = w ∧ EP X pins σ Q r s') pl.isList (by omega) (by rw [List.size_toArray] <;> omega) (by omega) (by rw [hj]; simpa using ew) ⟨rfl, fin⟩) hs
theorem ix_tup : IxR X (rIxT X.K) := by
  intro value slice pins s σ H x y v u Q I rx ry h hs
  obtain ⟨p, xs, i, z, rfl, rfl, hq, he, q⟩ := h
  cases rx
  obtain ⟨t, rfl⟩ := ry
  obtain ⟨its, r, pl, hz⟩ := I.tuple hq
  obtain ⟨j, h1, h2, h3, h4, h5⟩ := atI_get he
  obtain ⟨w, ew, rw'⟩ := r.get h2
  have hl := r.length
  have hn := line63
  have fin : EP X pins σ Q w s := ⟨z, H, I, rw', q⟩
  exact subscriptTail_builtinR (x := w) pl.typeIs slot_tuple_getitem.lookup
    (getItem_tuple (j := j) (Q := fun r s' => r = w ∧ EP X pins σ Q r s') pl (by omega) (by omega) (by rw [List.size_toArray, ← hl]; exact h1) (by simpa using ew) ⟨rfl, fin⟩) hs
theorem ix_str : IxR X rIxS := by
  intro value slice pins s σ H x y v u Q I rx ry h hs
  obtain ⟨z, i, c, rfl, rfl, hz, he, q⟩ := h
  obtain ⟨t, rfl⟩ := rx
  obtain ⟨t', rfl⟩ := ry
  obtain ⟨j, h1, h2, h3, h4, h5⟩ := atI_get he
  have hl : z.cps.toList.length = z.length := by simp [Str.length]
  rw [hl] at h1 h4 h5
  have hn := line63
  exact tail_any (typeIs_str s z t) slot_str_getitem.lookup (getItem_str (c := c) (by
    have e1 : decide (i < -(2 ^ 63 : Int)) = false := decide_eq_false (by omega)
    have e2 : decide (i ≥ 2 ^ 63) = false := decide_eq_false (by omega)
    rw [e1, e2, Bool.or_false]) (by rw [h1]; simpa using h2) ⟨.str ⟨#[c]⟩, H, I.tok _, ⟨_, rfl⟩, q⟩) hs
def rIx (K : PySem.W.Frag) : R2 := fun x y H Q => rIxL K x y H Q ∨ rIxT K x y H Q ∨ rIxS x y H Q
theorem mapSeq_set (its : List Value) (n j : Nat) (u : Value) : Obj.mapSeq (·.setIfInBounds j u) { cls := .type "list", data := .seq its.toArray n } = { cls := .type "list", data := .seq (its.set j u).toArray n } := by
  simp [Obj.mapSeq]
theorem Inv.lst {pins : List (Addr × Obj)} {σ : St} {H : Hp} {s : Shared} {p : Addr} {xs : List V} (I : Inv X pins σ H s) (h : H p = some (.lst xs)) :
    ∃ (its : List Value) (n : Nat), Vals xs its ∧ s.heap.get? p = some { cls := .type "list", data := .seq its.toArray n } ∧ xs.length ≤ sizeLine := by
  obtain ⟨z, its, n, r, e⟩ := I.hok p _ h
  exact ⟨its, n, r, e, z⟩
theorem Inv.lstUpd {pins : List (Addr × Obj)} {σ : St} {H : Hp} {s : Shared} {p : Addr} {xs ys : List V} {its its' : List Value} {n n' : Nat} {f : Obj → Obj} (I : Inv X pins σ H s) (h : H p = some (.lst xs))
    (ho : s.heap.get? p = some { cls := .type "list", data := .seq its.toArray n }) (hf : f { cls := .type "list", data := .seq its.toArray n } = { cls := .type "list", data := .seq its'.toArray n' }) (r : Vals ys its') (hz : ys.length ≤ sizeLine) (t : Nat) :
    Inv X pins σ (upd H p (.lst ys)) { s with heap := s.heap.update p f, toks := t } := by
  have e : (s.heap.update p f).get? p = some { cls := .type "list", data := .seq its'.toArray n' } := by
    rw [Heap.get?_update_self f ho (by rw [hf] <;> rfl), hf]
  refine I.write (x := p) (e := p) (by rw [h]; trivial) (.inl rfl) (fun b u hb q => (Heap.get?_update_other _ _ (Ne.symm hb)).trans q) ⟨_, e⟩ ?_
  exact ⟨hz, its', n', r, e⟩
def rSetL : V → V → V → Hp → (Hp → Prop) → Prop := fun o i v H Q => ∃ p xs k j, o = .ref p ∧ i = .int k ∧ H p = some (.lst xs) ∧ ixN xs.length k = some j ∧ Q (upd H p (.lst (xs.set j v)))
theorem set_list : PSet X rSetL := by
  intro pins s σ H o i v ov iv u Q I ro ri rv h
  obtain ⟨p, xs, k, j, rfl, rfl, hp, hj, q⟩ := h
  cases ro
  obtain ⟨t, rfl⟩ := ri
  obtain ⟨its, n, r, ho, hz⟩ := I.lst hp
  obtain ⟨h1, h2, h3, h4⟩ := ixN_seq hj
  have hl := r.length
  have hn := line63
  have I' : Inv X pins σ (upd H p (.lst (xs.set j v))) { s with heap := s.heap.update p (Obj.mapSeq (·.setIfInBounds j u)) } :=
    I.lstUpd hp ho (mapSeq_set its n j u) (r.set rv j) (by rw [List.length_set]; exact hz) s.toks
  by_cases h0 : 0 ≤ k
  · have hk : k.toNat = j := by
      rw [seqIndex_of h0 h4] at h1
      exact Option.some.inj h1
    exact PySem.W.ki_setAt ho h0 (by omega) (by rw [List.size_toArray, ← hl]; exact h4) (by rw [hk]; exact ⟨_, I', q⟩)
  · have hk : (k + (its.toArray.size : Int)).toNat = j := by
      rw [seqIndex_neg (by omega) h3] at h1
      rw [List.size_toArray, ← hl]
      exact Option.some.inj h1
    exact PySem.W.ki_setBack ho (by omega) (by rw [List.size_toArray, ← hl]; exact h3) (by omega) (by rw [hk]; exact ⟨_, I', q⟩)
theorem slice_bounds (lo hi : Option Int) (n : Nat) : (sliceBounds lo hi none n).1 = ((HT.sIx n 0 lo : Nat) : Int) ∧ (sliceBounds lo hi none n).2.1 = ((HT.sIx n n hi : Nat) : Int) ∧ (sliceBounds lo hi none n).2.2 = 1 := by
  refine ⟨?_, ?_, rfl⟩
  · cases lo with
    | none => simp [sliceBounds, HT.sIx]
    | some i =>
      simp only [sliceBounds, HT.sIx, Option.getD_none, show (1 : Int) > 0 by decide, if_true]
      by_cases h : i < 0
      · simp only [h, if_true] <;> omega
      · simp only [h, if_false] <;> omega
  · cases hi with
    | none => simp [sliceBounds, HT.sIx]
    | some i =>
      simp only [sliceBounds, HT.sIx, Option.getD_none, show (1 : Int) > 0 by decide, if_true]
      by_cases h : i < 0
      · simp only [h, if_true] <;> omega
      · simp only [h, if_false] <;> omega
theorem slicePick_cut (its : List Value) (lo hi : Option Int) : slicePick its.toArray lo hi none = ((its.drop (HT.sIx its.length 0 lo)).take (HT.sIx its.length its.length hi - HT.sIx its.length 0 lo)).toArray := by
  obtain ⟨h1, h2, h3⟩ := slice_bounds lo hi its.toArray.size
  unfold slicePick
  rw [h1, h2, h3]
  simp only [sliceRange_one, pick_run, List.size_toArray] <;> rfl
def rSlL (K : PySem.W.Frag) : V → Option Int → Option Int → Hp → VK → Prop := fun x lo hi H Q => ∃ a xs, x = .ref a ∧ SqL K H a xs ∧ ∀ p, H p = none → Q (.ref p) (upd H p (.lst (cutV xs lo hi)))
theorem sl_list : SlR X (rSlL X.K) := by
  intro pins s σ H x v vl vu lo hi sl Q I rx hs pl pu h
  obtain ⟨a, xs, rfl, hx, q⟩ := h
  cases rx
  obtain ⟨its, r, ht, hz⟩ := I.list hx
  have hlen := r.length
  refine ⟨"list", _, slot_list_getitem.lookup, ht.isList.typeIs, ?_⟩
  refine wpAny_getItem_list_slice ht.isList hs pl pu .none (by simp) ?_ (by rw [List.size_toArray] <;> omega)
  rw [slicePick_cut, ← hlen]
  refine ⟨.ref s.heap.objs.size, _, I.laid (t' := s.toks) (o := .lst (cutV xs lo hi)) (fun b ob q => Heap.get?_push_of_some _ q) (Nat.le_refl _) ?_, rfl, q _ (I.hok.fresh (Nat.le_refl _))⟩
  exact ⟨Nat.le_trans (cutV_length xs lo hi) hz, _, 0, (r.drop (HT.sIx xs.length 0 lo)).take (HT.sIx xs.length xs.length hi - HT.sIx xs.length 0 lo), Heap.get?_push_size _ rfl⟩
def flatV : V → Bool
  | .non => true
  | .bl _ => true
  | .int _ => true
  | .str _ => true
  | _ => false
def eqV : V → V → Bool
  | .non, .non => true
  | .bl a, .bl b => a == b
  | .bl a, .int b => (if a then 1 else 0) == b
  | .int a, .bl b => a == (if b then 1 else 0)
  | .int a, .int b => a == b
  | .str a, .str b => a == b
  | _, _ => false
theorem eqAt_V {A : Around} {s : Shared} {y x : V} {u v : Value} (ry : RelV y u) (rx : RelV x v) (fy : flatV y = true) (fx : flatV x = true) : SeqAt.EqAt A s u v (eqV y x) := by
  cases y with
  | non =>
    cases ry
    cases x with
    | non => cases rx; exact SeqAt.EqAt.same _
    | bl b => cases rx; exact SeqAt.EqAt.none_bool b
    | int b => obtain ⟨t, rfl⟩ := rx; exact SeqAt.EqAt.none_int b t
    | str b => obtain ⟨t, rfl⟩ := rx; exact SeqAt.EqAt.none_str b t
    | _ => exact absurd (show false = true from fx) Bool.false_ne_true
  | bl a =>
    cases ry
    cases x with
    | non => cases rx; exact SeqAt.EqAt.bool_none a
    | bl b => cases rx; exact SeqAt.EqAt.bool_bool a b
    | int b => obtain ⟨t, rfl⟩ := rx; exact SeqAt.EqAt.bool_int a b t
    | str b => obtain ⟨t, rfl⟩ := rx; exact SeqAt.EqAt.bool_str a b t
    | _ => exact absurd (show false = true from fx) Bool.false_ne_true
  | int a =>
    obtain ⟨t', rfl⟩ := ry
    cases x with
    | non => cases rx; exact SeqAt.EqAt.int_none a t'
    | bl b => cases rx; exact SeqAt.EqAt.int_bool a t' b
    | int b => obtain ⟨t, rfl⟩ := rx; exact SeqAt.EqAt.int_int a t' b t
    | str b => obtain ⟨t, rfl⟩ := rx; exact SeqAt.EqAt.int_str a t' b t
    | _ => exact absurd (show false = true from fx) Bool.false_ne_true
  | str a =>
    obtain ⟨t', rfl⟩ := ry
    cases x with
    | non => cases rx; exact SeqAt.EqAt.str_none a t'
    | bl b => cases rx; exact SeqAt.EqAt.str_bool a t' b
    | int b => obtain ⟨t, rfl⟩ := rx; exact SeqAt.EqAt.str_int a t' b t
    | str b => obtain ⟨t, rfl⟩ := rx; exact SeqAt.EqAt.str_str a t' b t
    | _ => exact absurd (show false = true from fx) Bool.false_ne_true
  | _ => exact absurd (show false = true from fy) Bool.false_ne_true
def eqU (x : V) (u : Value) : Bool := match u with
  | .none => eqV .non x
  | .bool b => eqV (.bl b) x
  | .int i _ => eqV (.int i) x
  | .str z _ => eqV (.str z) x
  | _ => false
theorem eqU_of {x y : V} {u : Value} (r : RelV y u) (f : flatV y = true) : eqU x u = eqV y x := by
  cases y with
  | non => cases r; rfl
  | bl b => cases r; rfl
  | int i => obtain ⟨t, rfl⟩ := r; rfl
  | str z => obtain ⟨t, rfl⟩ := r; rfl
  | _ => exact absurd (show false = true from f) Bool.false_ne_true
theorem any_eqU {x : V} : ∀ {xs : List V} {us : List Value}, Vals xs us → xs.all flatV = true → us.any (eqU x) = xs.any fun y => eqV y x
  | _, _, .nil, _ => rfl
  | y :: xs, u :: us, .cons r t, f => by
    rw [List.all_cons, Bool.and_eq_true] at f
    rw [List.any_cons, List.any_cons, eqU_of r f.1, any_eqU t f.2]
theorem mem_eqAt {A : Around} {s : Shared} {x : V} {v : Value} (rx : RelV x v) (fx : flatV x = true) : ∀ {xs : List V} {us : List Value}, Vals xs us → xs.all flatV = true → ∀ u ∈ us, SeqAt.EqAt A s u v (eqU x u)
  | _, _, .nil, _ => fun u hu => by cases hu
  | y :: xs, u :: us, .cons r t, f => fun u' hu => by
    rw [List.all_cons, Bool.and_eq_true] at f
    rcases List.mem_cons.mp hu with rfl | hu
    · rw [eqU_of r f.1]; exact eqAt_V r rx f.1 fx
    · exact mem_eqAt rx fx t f.2 u' hu
def inV (x : V) (xs : List V) : Bool := xs.any fun y => eqV y x
def rIn (K : PySem.W.Frag) (neg : Bool) : R2 := fun x y H Q => ∃ p xs, y = .ref p ∧ (SqL K H p xs ∨ SqT K H p xs) ∧ flatV x = true ∧ xs.all flatV = true ∧ Q (.bl (if neg then !inV x xs else inV x xs)) H
theorem op_notIn_seq : OpR X (compareOp .NotIn) (rIn X.K true) := by
  intro pins s σ H x y v u Q I rx ry h
  obtain ⟨p, xs, rfl, hq, fx, fs, q⟩ := h
  cases ry
  rcases hq with hq | hq
  · obtain ⟨its, r, pl, hz⟩ := I.list hq
    refine SeqAt.notIn_listAt (eqU x) pl.isList (fun w hw => mem_eqAt rx fx r fs w (by simpa using hw)) ⟨.bl _, H, I, rfl, ?_⟩
    rw [show its.toArray.any (eqU x) = its.any (eqU x) by simp, any_eqU r fs]
    exact q
  · obtain ⟨its, r, pl, hz⟩ := I.tuple hq
    refine SeqAt.notIn_tupleAt (eqU x) pl (fun w hw => mem_eqAt rx fx r fs w (by simpa using hw)) ⟨.bl _, H, I, rfl, ?_⟩
    rw [show its.toArray.any (eqU x) = its.any (eqU x) by simp, any_eqU r fs]
    exact q
theorem call_len_seq : CallR X (.builtin "len") (fun xs H Q => ∃ p ys, xs = [.ref p] ∧ (SqL X.K H p ys ∨ SqT X.K H p ys) ∧ Q (.int ys.length) H) := by
  intro pins s σ H xs us Q I r h
  obtain ⟨p, ys, rfl, hq, q⟩ := h
  obtain ⟨u, rfl, rx⟩ := vals1 r
  cases rx
  have hn := line63
  rcases hq with hq | hq
  · obtain ⟨its, r', pl, hz⟩ := I.list hq
    have hlen := r'.length
    exact Calls.call_len_list pl.isList (by simp only [List.size_toArray] <;> omega) ⟨.int ys.length, H, I.tok _, ⟨s.toks + 1, by rw [List.size_toArray, hlen]⟩, q⟩
  · obtain ⟨its, r', pl, hz⟩ := I.tuple hq
    have hlen := r'.length
    exact len_tuple pl (by simp only [List.size_toArray] <;> omega) ⟨.int ys.length, H, I.tok _, ⟨s.toks + 1, by rw [List.size_toArray, hlen]⟩, q⟩
theorem call_len_str : CallR X (.builtin "len") (fun xs H Q => ∃ z, xs = [.str z] ∧ z.length ≤ sizeLine ∧ Q (.int z.length) H) := by
  intro pins s σ H xs us Q I r h
  obtain ⟨z, rfl, hz, q⟩ := h
  obtain ⟨u, rfl, t, rfl⟩ := vals1 r
  have hn := line63
  exact len_str (by omega) ⟨.int z.length, H, I.tok _, ⟨_, rfl⟩, q⟩
theorem call_list_of : CallR X (.type "list") (fun xs H Q => ∃ p ys, xs = [.ref p] ∧ (SqL X.K H p ys ∨ SqT X.K H p ys) ∧ ∀ l, H l = none → Q (.ref l) (upd H l (.lst ys))) := by
  intro pins s σ H xs us Q I r h
  obtain ⟨p, ys, rfl, hq, q⟩ := h
  obtain ⟨u, rfl, rx⟩ := vals1 r
  cases rx
  have fin : ∀ (its : List Value), Vals ys its → ys.length ≤ sizeLine → ∀ (h' : Heap) (c' : Nat), (∀ b o', s.heap.get? b = some o' → h'.get? b = some o') →
      h'.get? s.heap.objs.size = some { cls := .type "list", dict := none, data := .seq its.toArray c', slots := #[] } → EP X pins σ Q (.ref s.heap.objs.size) { s with heap := h' } := fun its r' hz h' c' kp e =>
    ⟨.ref s.heap.objs.size, _, I.laid (t' := s.toks) kp (Nat.le_refl _) (show ObjOk X.prog X.w _ h' _ (.lst ys) from ⟨hz, its, c', r', e⟩), rfl, q _ (I.hok.fresh (Nat.le_refl _))⟩
  rcases hq with hq | hq
  · obtain ⟨its, r', pl, hz⟩ := I.list hq
    have hlen := r'.length
    obtain ⟨o, ho, hc, n, hd⟩ := pl.isList
    exact call_list_seq p (.inl rfl) ho hc hd (fun h' c' kp e => fin its r' hz h' c' kp e) (by simp only [List.size_toArray] <;> omega)
  · obtain ⟨its, r', pl, hz⟩ := I.tuple hq
    have hlen := r'.length
    obtain ⟨o, ho, hc, n, hd⟩ := pl
    exact call_list_seq p (.inr rfl) ho hc hd (fun h' c' kp e => fin its r' hz h' c' kp e) (by simp only [List.size_toArray] <;> omega)
theorem call_tuple_of : CallR X (.type "tuple") (fun xs H Q => ∃ p ys, xs = [.ref p] ∧ ((SqL X.K H p ys ∧ ∀ l, H l = none → Q (.ref l) (upd H l (.tup ys))) ∨ (SqT X.K H p ys ∧ Q (.ref p) H))) := by
  intro pins s σ H xs us Q I r h
  obtain ⟨p, ys, rfl, h⟩ := h
  obtain ⟨u, rfl, rx⟩ := vals1 r
  cases rx
  rcases h with ⟨hq, q⟩ | ⟨hq, q⟩
  · obtain ⟨its, r', pl, hz⟩ := I.list hq
    have hlen := r'.length
    refine call_tuple_list pl.isList (fun h' kp => ?_) (by simp only [List.size_toArray] <;> omega)
    have I1 : Inv X pins σ H { s with heap := h' } := I.kept (t' := s.toks) kp
    have I2 : Inv X pins σ (upd H h'.objs.size (.tup ys)) { s with heap := h'.push { cls := .type "tuple", data := .seq its.toArray } } :=
      I1.laid (t' := s.toks) (fun b o e => Heap.get?_push_of_some _ e) (Nat.le_refl _) (show ObjOk X.prog X.w _ _ _ (.tup ys) from ⟨hz, its, r', IsTupN.new _ _⟩)
    exact ⟨.ref h'.objs.size, _, I2, rfl, q _ (I1.hok.fresh (Nat.le_refl _))⟩
  · obtain ⟨its, r', pl, hz⟩ := I.tuple hq
    exact call_tuple_same pl ⟨.ref p, H, I, rfl, q⟩
def tyV (K : PySem.W.Frag) (T : String) (x : V) (H : Hp) : Prop := match x with
  | .str _ => T = "str"
  | .int _ => T = "int"
  | .ref p => (T = "list" ∧ ∃ xs, SqL K H p xs) ∨ (T = "tuple" ∧ ∃ o, K.lookup p = some o ∧ o.cls = .type "tuple" ∧ o.dict = none) ∨
      (T = "dict" ∧ ((∃ kvs, H p = some (.dK kvs)) ∨ ∃ kvs, H p = some (.dT kvs))) ∨ (T = "set" ∧ ∃ S n, H p = some (.set S n))
  | _ => False
theorem tyV_is {pins : List (Addr × Obj)} {σ : St} {H : Hp} {s : Shared} {T : String} {x : V} {v : Value} (I : Inv X pins σ H s) (r : RelV x v) (ty : tyV X.K T x H) :
    s.TypeIs v T ∧ ∀ a, v = .ref a → ∃ ob, s.heap.get? a = some ob ∧ ob.dict = none := by
  cases x with
  | str z =>
    obtain ⟨t, rfl⟩ := r
    cases (show T = "str" from ty)
    exact ⟨typeIs_str s z t, fun _ e => nomatch e⟩
  | int i =>
    obtain ⟨t, rfl⟩ := r
    cases (show T = "int" from ty)
    exact ⟨typeIs_int s i t, fun _ e => nomatch e⟩
  | ref p =>
    cases r
    rcases ty with ⟨rfl, xs, hq⟩ | ⟨rfl, o, hk, hc, hd⟩ | ⟨rfl, hk⟩ | ⟨rfl, S, n, hk⟩
    · obtain ⟨its, _, pl, _⟩ := I.list hq
      refine ⟨pl.isList.typeIs, fun a e => ?_⟩
      cases e
      obtain ⟨o, n, e, c, hd, _⟩ := pl
      exact ⟨o, e, hd⟩
    · refine ⟨⟨o, I.kIn p o hk, hc⟩, fun a e => ?_⟩
      cases e
      exact ⟨o, I.kIn _ o hk, hd⟩
    · have z : ∃ o, s.heap.get? p = some o ∧ o.ExactDict := by
        rcases hk with ⟨kvs, hk⟩ | ⟨kvs, hk⟩
        · obtain ⟨_, _, _, _, o, _, _, e, ex, _⟩ := I.hok p _ hk
          exact ⟨o, e, ex⟩
        · obtain ⟨_, _, _, _, o, _, _, e, ex, _⟩ := I.hok p _ hk
          exact ⟨o, e, ex⟩
      obtain ⟨o, e, ex⟩ := z
      refine ⟨⟨o, e, ex.1⟩, fun a e2 => ?_⟩
      cases e2
      exact ⟨o, e, ex.2.1⟩
    · obtain ⟨o, _, _, _, e, ex, _⟩ := I.hok p _ hk
      refine ⟨⟨o, e, ex.1⟩, fun a e2 => ?_⟩
      cases e2
      exact ⟨o, e, ex.2.1⟩
  | _ => exact False.elim ty
def tBM0 (K : PySem.W.Frag) (T : String) (r : V → List V → Hp → VK → Prop) (to : TE) : TE := fun σ H Q => to σ H fun x H1 => tyV K T x H1 ∧ r x [] H1 Q
def tBM (K : PySem.W.Frag) (T : String) (r : V → List V → Hp → VK → Prop) (to : TE) (t : TA) : TE := fun σ H Q => to σ H fun x H1 => tyV K T x H1 ∧ t σ H1 fun xs H2 => r x xs H2 Q
variable {o e : Expr} {es : List Expr} {to : TE} {t : TA} {name : Str} {apos cpos : Pos} {T id : String} {r : V → List V → Hp → VK → Prop}
theorem pe_bm0 (pa : PlainAttrs T) (slot : Slot T name id) (hty : typeOf (.builtin id) = pure (.type "method_descriptor")) (hm : MtR X id r) (ho : PE X o to)
    (hbase : attributeBase o name X.env (eval o X.env) = eval o X.env := by rfl) (hline : (apos.endLine == cpos.line) = true := by rfl) : PE X (.Call (.Attribute o name apos) [] [] cpos) (tBM0 X.K T r to) := by
  intro pins s σ H Q I h
  refine wpAny_Call_method0_late hbase hline (thn (ho pins s σ H _ I h) fun v s1 ⟨x, H1, I1, r1, ty, q1⟩ => ?_)
  obtain ⟨h1, h2⟩ := tyV_is I1 r1 ty
  exact ⟨T, id, pa, slot, hty, h1, h2, Calls.callWith_builtin rfl (PySem.evalArgs_none (hm pins s1 σ H1 x [] v [] Q I1 r1 .nil q1))⟩
theorem pe_bm (pa : PlainAttrs T) (slot : Slot T name id) (hty : typeOf (.builtin id) = pure (.type "method_descriptor")) (hm : MtR X id r) (ho : PE X o to) (ha : PA X (e :: es) t)
    (hbase : attributeBase o name X.env (eval o X.env) = eval o X.env := by rfl)
    (hfew : ((backTo cpos (starEach (e :: es) X.env)).all (fun x => !x.1) && (backToKw cpos (keywordEach [] X.env)).all (fun x => x.1.isSome)
      && decide ((e :: es).length + ([] : List Keyword).length + (if ([] : List Keyword).isEmpty then 0 else 1) < 30)) = true := by rfl)
    (hline : (apos.endLine == cpos.line) = true := by rfl) (hs : starEach (e :: es) X.env = (false, eval e X.env) :: starEach es X.env := by rfl) (hplain : (backTo cpos (starEach es X.env)).any (·.1) = false := by rfl) :
    PE X (.Call (.Attribute o name apos) (e :: es) [] cpos) (tBM X.K T r to t) := by
  intro pins s σ H Q I h
  refine wpAny_Call_method_late hbase hfew hline rfl (thn (ho pins s σ H _ I h) fun v s1 ⟨x, H1, I1, r1, ty, q1⟩ => ?_)
  obtain ⟨h1, h2⟩ := tyV_is I1 r1 ty
  refine ⟨T, id, pa, slot, hty, h1, h2, ?_⟩
  have hA := ha cpos pins s1 σ H1 _ I1 q1
  rw [hs] at hA ⊢
  refine Calls.callWith_builtin (by show (false || (backTo cpos (starEach es X.env)).any (·.1)) = false; rw [hplain] <;> rfl) (Calls.evalArgs_plain ?_)
  exact thn hA fun us s2 ⟨vs, H2, I2, r2, q2⟩ => hm pins s2 σ H2 x vs v us Q I2 r1 r2 q2
/- xs.append(e), list.index on a module's tuple .. are MtR facts of 06m -/
end
end L2
namespace L2
open PySem PySem.Spec PyProof.Rows
def MtM (X : Cx) (id : String) (r : V → List V → Hp → VK → Prop) : Prop :=
  ∀ (pins : List (Addr × Obj)) (s : Shared) (σ : St) (H : Hp) (x : V) (xs : List V) (v : Value) (us : List Value) (Q : VK), Inv X pins σ H s → RelV x v → Vals xs us → r x xs H Q →
    wpAny (model X.prog X.w) X.A (call (.builtin id) (v :: us)) (EP X pins σ Q) X.xe s
theorem Vals.one : ∀ {x : V} {us : List Value}, Vals [x] us → ∃ u, us = [u] ∧ RelV x u
  | _, _, .cons r .nil => ⟨_, rfl, r⟩
theorem Vals.two : ∀ {x y : V} {us : List Value}, Vals [x, y] us → ∃ u v, us = [u, v] ∧ RelV x u ∧ RelV y v
  | _, _, _, .cons r (.cons q .nil) => ⟨_, _, rfl, r, q⟩
theorem Vals.zero : ∀ {us : List Value}, Vals [] us → us = []
  | _, .nil => rfl
theorem Vals.dropLast {xs : List V} {us : List Value} (h : Vals xs us) : Vals xs.dropLast us.dropLast := by
  induction h with
  | nil => exact .nil
  | cons r t ih =>
    cases t with
    | nil => exact .nil
    | cons q t' => exact .cons r ih
theorem Vals.eraseIdx : ∀ {xs : List V} {us : List Value} (i : Nat), Vals xs us → Vals (xs.eraseIdx i) (us.eraseIdx i)
  | _, _, _, .nil => .nil
  | _, _, 0, .cons _ t => t
  | _, _, i + 1, .cons r t => .cons r (Vals.eraseIdx i t)
theorem Vals.reverse {xs : List V} {us : List Value} (h : Vals xs us) : Vals xs.reverse us.reverse := by
  induction h with
  | nil => exact .nil
  | cons r t ih => rw [List.reverse_cons, List.reverse_cons]; exact Vals.append ih (.cons r .nil)
theorem erase_last {α : Type} (l : List α) : l.eraseIdx (l.length - 1) = l.dropLast := by
  induction l with
  | nil => rfl
  | cons a r ih =>
    cases r with
    | nil => rfl
    | cons b r =>
      have e : (a :: b :: r).length - 1 = ((b :: r).length - 1) + 1 := by
        have h1 : (a :: b :: r).length = r.length + 2 := rfl
        have h2 : (b :: r).length = r.length + 1 := rfl
        omega
      rw [e, List.eraseIdx_cons_succ, ih]
      all_goals rfl
section
variable {X : Cx} {pins : List (Addr × Obj)} {σ : St} {H : Hp} {s : Shared} {l b : Addr} {xs ys zs : List V}
theorem Inv.lset {its its' : List Value} {n : Nat} {f : Array Value → Array Value} {t' : Nat} (I : Inv X pins σ H s) (hH : H l = some (.lst xs))
    (e : s.heap.get? l = some { cls := .type "list", data := .seq its.toArray n }) (hf : f its.toArray = its'.toArray) (hv : Vals ys its') (hz : ys.length ≤ sizeLine) :
    Inv X pins σ (upd H l (.lst ys)) { s with heap := s.heap.update l (Obj.mapSeq f), toks := t' } := by
  have q := PySem.IsL.update e f
  rw [hf] at q
  refine I.write (x := l) (e := l) (by rw [hH]; exact trivial) (.inl rfl) (fun b' u hb hu => (Heap.get?_update_other s.heap (Obj.mapSeq f) (Ne.symm hb)).trans hu) ⟨_, q⟩ ?_
  exact ⟨hz, its', _, hv, q⟩
theorem Inv.lnew {its : List Value} {t' : Nat} (I : Inv X pins σ H s) (hv : Vals ys its) (hz : ys.length ≤ sizeLine) :
    Inv X pins σ (upd H s.heap.objs.size (.lst ys)) { s with heap := s.heap.push { cls := .type "list", data := .seq its.toArray }, toks := t' } :=
  I.laid (fun _ _ q => Heap.get?_push_of_some _ q) (Nat.le_refl _) ⟨hz, its, 0, hv, Heap.get?_push_size _ rfl⟩
theorem Inv.fresh (I : Inv X pins σ H s) : H s.heap.objs.size = none := I.hok.fresh (Nat.le_refl _)
theorem Inv.lstM (I : Inv X pins σ H s) (hH : H l = some (.lst xs)) : xs.length ≤ sizeLine ∧ ∃ (its : List Value) (n : Nat), Vals xs its ∧ xs.length = its.length ∧ s.heap.get? l = some { cls := .type "list", data := .seq its.toArray n } := by
  obtain ⟨z, its, n, r, e⟩ := I.hok l _ hH
  exact ⟨z, its, n, r, r.length, e⟩
theorem notLongL {n : Nat} (h : n ≤ sizeLine) : Builtin.List.listTooLong n = false := by
  unfold Builtin.List.listTooLong
  exact decide_eq_false (by omega)
end
section
variable {X : Cx}
def rAppend : V → List V → Hp → VK → Prop := fun x vs H Q => ∃ l xs y, x = .ref l ∧ vs = [y] ∧ H l = some (.lst xs) ∧ xs.length < sizeLine ∧ Q .non (upd H l (.lst (xs ++ [y])))
theorem mt_append : MtM X "list.append" rAppend := by
  intro pins s σ H x vs v us Q I rx rv h
  obtain ⟨l, xs, y, rfl, rfl, hH, hz, q⟩ := h
  cases rx
  obtain ⟨u, rfl, ru⟩ := rv.one
  obtain ⟨z, its, n, r, hl, e⟩ := I.lstM hH
  refine call_meets F.slot_list_append ⟨_, e, rfl⟩ F.entry_list_append (F.args_list_append_2 _ _) (PySem.list_append l its.toArray n u (by rw [List.size_toArray]; omega)) ⟨e, ?_⟩
  refine ⟨.non, _, I.lset (its' := its ++ [u]) hH e (by simp) (r.append (.cons ru .nil)) ?_, rfl, q⟩
  rw [List.length_append, List.length_singleton]
  omega
def rExtend : V → List V → Hp → VK → Prop := fun x vs H Q => ∃ l b xs zs, x = .ref l ∧ vs = [.ref b] ∧ H l = some (.lst xs) ∧ H b = some (.lst zs) ∧ xs.length + zs.length ≤ sizeLine ∧ Q .non (upd H l (.lst (xs ++ zs)))
theorem mt_extend : MtM X "list.extend" rExtend := by
  intro pins s σ H x vs v us Q I rx rv h
  obtain ⟨l, b, xs, zs, rfl, rfl, hH, hB, hz, q⟩ := h
  cases rx
  obtain ⟨u, rfl, ru⟩ := rv.one
  cases ru
  obtain ⟨z, its, n, r, hl, e⟩ := I.lstM hH
  obtain ⟨z2, its2, n2, r2, hl2, e2⟩ := I.lstM hB
  have hsz : its.toArray.size + its2.toArray.size ≤ sizeLine := by rw [List.size_toArray, List.size_toArray]; omega
  have hlong : ¬ (!its.toArray.isEmpty && Builtin.List.listTooLong (its.toArray.size + its2.toArray.size)) = true := by
    rw [notLongL hsz, Bool.and_false]
    exact Bool.false_ne_true
  refine call_meets F.slot_list_extend ⟨_, e, rfl⟩ F.entry_list_extend (F.args_list_extend_2 _ _)
    (AutoSeq1.list_extend_list_list_0 l its.toArray n b its2.toArray n2 hlong (by rw [List.size_toArray]; omega) (by omega)) ⟨e, e2, ?_⟩
  refine ⟨.non, _, I.lset (its' := its ++ its2) hH e (by simp) (r.append r2) ?_, rfl, q⟩
  rw [List.length_append]
  omega
def rPop : V → List V → Hp → VK → Prop := fun x vs H Q => ∃ l xs y, x = .ref l ∧ vs = [] ∧ H l = some (.lst xs) ∧ xs[xs.length - 1]? = some y ∧ Q y (upd H l (.lst xs.dropLast))
theorem mt_pop : MtM X "list.pop" rPop := by
  intro pins s σ H x vs v us Q I rx rv h
  obtain ⟨l, xs, y, rfl, rfl, hH, hy, q⟩ := h
  cases rx
  have hus := rv.zero
  subst hus
  obtain ⟨z, its, n, r, hl, e⟩ := I.lstM hH
  obtain ⟨u, hu, ru⟩ := r.get hy
  have hy' : its.toArray[its.toArray.size - 1]? = some u := by
    show its.toArray[its.length - 1]? = some u
    rw [← Array.getElem?_toList, ← hl]
    exact hu
  refine call_meets F.slot_list_pop ⟨_, e, rfl⟩ F.entry_list_pop (F.args_list_pop_1 _) (MeetsSeq.list_pop_last l its.toArray n u hy' (by rw [List.size_toArray]; omega)) ⟨e, ?_⟩
  refine ⟨y, _, I.lset (its' := its.dropLast) hH e ?_ r.dropLast ?_, ru, q⟩
  · show its.toArray.eraseIdxIfInBounds (its.toArray.size - 1) = its.dropLast.toArray
    rw [List.size_toArray, List.eraseIdxIfInBounds_toArray, erase_last]
  · rw [List.length_dropLast]
    omega
def rPopAt : V → List V → Hp → VK → Prop := fun x vs H Q => ∃ l xs i k y, x = .ref l ∧ vs = [.int i] ∧ H l = some (.lst xs) ∧ -(2 ^ 63) ≤ i ∧ i < 2 ^ 63 ∧ seqIndex? i xs.length = some k ∧ xs[k]? = some y ∧ Q y (upd H l (.lst (xs.eraseIdx k)))
def rReverse : V → List V → Hp → VK → Prop := fun x vs H Q => ∃ l xs, x = .ref l ∧ vs = [] ∧ H l = some (.lst xs) ∧ Q .non (upd H l (.lst xs.reverse))
theorem mt_reverse : MtM X "list.reverse" rReverse := by
  intro pins s σ H x vs v us Q I rx rv h
  obtain ⟨l, xs, rfl, rfl, hH, q⟩ := h
  cases rx
  have hus := rv.zero
  subst hus
  obtain ⟨z, its, n, r, hl, e⟩ := I.lstM hH
  refine call_meets F.slot_list_reverse ⟨_, e, rfl⟩ F.entry_list_reverse (F.args_list_reverse_1 _) (AutoSeq1.list_reverse_list_0 l its.toArray n (by rw [List.size_toArray]; omega)) ⟨e, ?_⟩
  refine ⟨.non, _, I.lset (its' := its.reverse) hH e (by simp) r.reverse ?_, rfl, q⟩
  rw [List.length_reverse]
  omega
def rClear : V → List V → Hp → VK → Prop := fun x vs H Q => ∃ l xs, x = .ref l ∧ vs = [] ∧ H l = some (.lst xs) ∧ Q .non (upd H l (.lst []))
def rCat : R2 := fun x y H Q => ∃ l b xs zs, x = .ref l ∧ y = .ref b ∧ H l = some (.lst xs) ∧ H b = some (.lst zs) ∧ xs.length + zs.length ≤ sizeLine ∧ ∀ p, H p = none → Q (.ref p) (upd H p (.lst (xs ++ zs)))
theorem op_cat : OpR X (binaryOp .Add) rCat := by
  intro pins s σ H x y v u Q I rx ry h
  obtain ⟨l, b, xs, zs, rfl, rfl, hH, hB, hz, q⟩ := h
  cases rx
  cases ry
  obtain ⟨z, its, n, r, hl, e⟩ := I.lstM hH
  obtain ⟨z2, its2, n2, r2, hl2, e2⟩ := I.lstM hB
  refine PySem.P.add_list e e2 ?_ (by rw [List.size_toArray, List.size_toArray]; omega)
  have ea : its.toArray ++ its2.toArray = (its ++ its2).toArray := by simp
  rw [ea]
  exact ⟨.ref _, _, I.lnew (t' := s.toks) (r.append r2) (by rw [List.length_append]; omega), rfl, q _ I.fresh⟩
def rRep : R2 := fun x y H Q => ∃ l k xs, x = .ref l ∧ y = .int k ∧ H l = some (.lst xs) ∧ -(2 ^ 63) ≤ k ∧ k < 2 ^ 63 ∧ xs.length * k.toNat ≤ sizeLine ∧
  ∀ p, H p = none → Q (.ref p) (upd H p (.lst (List.replicate k.toNat xs).flatten))
end
section
variable {prog : Program} {w : World} {A : Around} {E : Value → Shared → Prop} {s : Shared}
theorem bounds_run {a c n : Nat} (hac : a ≤ c) (hc : c ≤ n) : sliceBounds (some (a : Int)) (some (c : Int)) none n = ((a : Int), (c : Int), 1) := by
  simp only [sliceBounds, Option.getD_none]
  have h1 : ¬ ((a : Int) < 0) := by omega
  have h2 : ¬ ((c : Int) < 0) := by omega
  simp only [h1, h2, if_false, show (1 : Int) > 0 by decide, if_true]
  congr 1
  · omega
  · congr 1; omega
set_option maxRecDepth 100000 in
theorem setItem_slice {l b sl : Addr} {items new : Array Value} {n n2 : Nat} {vl vu : Value} {a c : Nat} {Q : Unit → Shared → Prop}
    (e : s.heap.get? l = some { cls := .type "list", data := .seq items n }) (e2 : s.heap.get? b = some { cls := .type "list", data := .seq new n2 }) (hne : l ≠ b)
    (hs : s.heap.IsSliceOf sl vl vu .none) (pl : IsPart vl (some (a : Int))) (pu : IsPart vu (some (c : Int))) (hac : a ≤ c) (hc : c ≤ items.size)
    (hsz : items.size + new.size ≤ sizeLine) (h : Q () { s with heap := s.heap.update l (Obj.mapSeq fun xs => xs.extract 0 a ++ new ++ xs.extract c xs.size) }) :
    wpAny (model prog w) A (setItem (.ref l) (.ref sl) (.ref b)) Q E s := by
  have hl : s.heap.IsList l items := PySem.IsL.isList e
  have hb : s.heap.IsList b new := PySem.IsL.isList e2
  obtain ⟨os, hos, hcs, hds⟩ := id hs
  have hTs : s.TypeIs (.ref sl) "slice" := ⟨os, hos, hcs⟩
  have hstep : ¬ ((rawPart none == rawInt 0) = true) := Bool.false_ne_true
  have hsame : Builtin.List.listSameRef (.ref l) (.ref b) = false := by
    unfold Builtin.List.listSameRef
    exact beq_eq_false_iff_ne.mpr hne
  have hmax : (max (a : Int) (c : Int)).toNat = c := by omega
  have hz' : ((fun xs : Array Value => xs.extract 0 a ++ new ++ xs.extract c xs.size) items).size ≤ sizeLine + 1 := by
    simp only [Array.size_append, Array.size_extract]
    omega
  unfold setItem
  try with_reducible refine wpAny_holding ?_
  first | refine wpAny_bind (wpAny_pure ?_) | skip
  refine wpAny_bind (wpAny_sequenceKey hl.typeIs (by decide) ?_)
  refine wpAny_bind (wpAny_callSpecial?_slot (name := Str.ofString "__setitem__") hl.typeIs slot_list_setitem
    (wpAny_call_entry slot_list_setitem hl.typeIs entry_list_setitem ?_ (args_list_setitem _ _ _)))
  show wpAny _ _ (Builtin.List.listSubscript? (.ref sl) >>= _) _ _ s
  refine wpAny_bind ?_
  unfold Builtin.List.listSubscript?
  refine wpAny_bind (wpAny_specialOf hTs slice_no_index ?_)
  simp only [Option.isNone_none, if_true]
  refine wpAny_pure ?_
  show wpAny _ _ (typeOf (.ref sl) >>= _) _ _ s
  refine wpAny_bind (wpAny_typeOf hTs ?_)
  first
    | rw [if_neg (by decide)]
    | refine PySem.W.KFB.if_not (by decide) ?_
  rw [listSliceParts_eq]
  refine wpAny_bind (wpAny_bind (wpAny_field hos hds (x := .none) rfl (wpAny_bind (wpAny_listPart .none ?_))))
  rw [if_neg hstep]
  refine wpAny_bind (wpAny_field hos hds (x := vl) rfl (wpAny_bind (wpAny_listPart pl ?_)))
  refine wpAny_bind (wpAny_field hos hds (x := vu) rfl (wpAny_bind (wpAny_listPart pu (wpAny_pure ?_))))
  first
    | simp only [hsame, Bool.false_eq_true, if_false]
    | refine PySem.W.KFB.if_not hsame ?_
    | (dsimp only
       rw [if_neg (by rw [hsame]; exact Bool.false_ne_true)])
  refine wpAny_bind (m := Builtin.List.listAllItems (.ref b) "must assign iterable to extended slice") ?_
  unfold Builtin.List.listAllItems
  refine wpAny_bind (wpAny_typeOf hb.typeIs ?_)
  first
    | refine PySem.W.KFB.if_so (by decide) ?_
    | rw [if_pos (by decide)]
    | simp only [beq_self_eq_true, Bool.true_or, if_true]
  unfold Builtin.List.listItems
  refine wpAny_bind (wpAny_seqItems e2 rfl (wpAny_pure ?_))
  refine wpAny_bind (wpAny_bind (wpAny_seqItems e rfl (wpAny_pure ?_)))
  refine wpAny_bind (wpAny_of_eq ((sliceIndices_raw (some (a : Int)) (some (c : Int)) none items.size (by simp)).trans (congrArg (pure : Int × Int × Int → Sem (Int × Int × Int)) (bounds_run hac hc))) ?_)
  show wpAny _ _ (if ((1 : Int) == 1) = true then _ else _) _ _ s
  rw [if_pos (by decide)]
  refine wpAny_bind (wpAny_rule ?_)
  first
    | simp only [notLongL hsz, Bool.false_eq_true, if_false]
    | refine PySem.W.KFB.if_not (notLongL hsz) ?_
  first | refine wpAny_bind (wpAny_pure ?_) | skip
  show wpAny _ _ (updateSeq l (fun xs => xs.extract 0 ((a : Int)).toNat ++ new ++ xs.extract (max (a : Int) (c : Int)).toNat xs.size) >>= _) _ _ s
  rw [hmax, Int.toNat_natCast]
  refine wpAny_bind (wpAny_updateSeq (hz := Nat.le_trans (Nat.le_add_right _ _) hsz) (_hz' := hz') e rfl ?_)
  refine wpAny_bind (wpAny_letGo ?_)
  first
    | exact wpAny_bind (wpAny_pure (wpAny_pure ⟨.none, rfl, wpAny_pure h⟩))
    | exact wpAny_pure ⟨.none, rfl, wpAny_pure h⟩
end
section
variable {X : Cx}
end
end L2
namespace L2
open PySem PySem.Spec PyProof.Rows
section
variable {κ : Type} [DecidableEq κ]
def valV (kvs : List (κ × V)) (k : κ) : Option V := (kvs.find? fun kv => decide (kv.1 = k)).map (·.2)
def putK (kvs : List (κ × V)) (k : κ) (v : V) : List (κ × V) :=
  if (kvs.any fun kv => decide (kv.1 = k)) = true then kvs.map (fun kv => if kv.1 = k then (kv.1, v) else kv) else kvs ++ [(k, v)]
def dropK (kvs : List (κ × V)) (k : κ) : List (κ × V) := kvs.filter fun kv => decide (kv.1 ≠ k)
theorem valV_pos {p : κ × V} {r : List (κ × V)} {k : κ} (e : p.1 = k) : valV (p :: r) k = some p.2 := by simp [valV, List.find?_cons, e]
theorem valV_neg {p : κ × V} {r : List (κ × V)} {k : κ} (e : ¬ p.1 = k) : valV (p :: r) k = valV r k := by simp [valV, List.find?_cons, e]
theorem valV_any (k : κ) : ∀ kvs : List (κ × V), (kvs.any fun kv => decide (kv.1 = k)) = (valV kvs k).isSome
  | [] => rfl
  | p :: r => by
    rw [List.any_cons]
    by_cases e : p.1 = k
    · simp only [valV_pos e, decide_eq_true e, Bool.true_or, Option.isSome_some]
    · rw [valV_neg e, decide_eq_false e, Bool.false_or]; exact valV_any k r
theorem valV_map (k j : κ) (y : V) : ∀ kvs : List (κ × V), valV (kvs.map fun kv => if kv.1 = k then (kv.1, y) else kv) j = (valV kvs j).map fun x => if j = k then y else x
  | [] => rfl
  | p :: r => by
    have ih := valV_map k j y r
    rw [List.map_cons]
    by_cases h : p.1 = k
    · rw [if_pos h]
      by_cases e : p.1 = j
      · rw [valV_pos (p := (p.1, y)) e, valV_pos e, Option.map_some, if_pos (e.symm.trans h)]
      · rw [valV_neg (p := (p.1, y)) e, valV_neg e, ih]
    · rw [if_neg h]
      by_cases e : p.1 = j
      · rw [valV_pos (p := p) e, valV_pos e, Option.map_some, if_neg (fun z => h (e.trans z))]
      · rw [valV_neg (p := p) e, valV_neg e, ih]
theorem valV_snoc (k j : κ) (y : V) : ∀ kvs : List (κ × V), valV kvs k = none → valV (kvs ++ [(k, y)]) j = if j = k then some y else valV kvs j
  | [], _ => by
    by_cases e : k = j
    · rw [if_pos e.symm]; exact valV_pos (p := (k, y)) e
    · rw [if_neg (fun z => e z.symm)]; exact valV_neg (p := (k, y)) e
  | p :: r, hn => by
    rw [List.cons_append]
    have hk : ¬ p.1 = k := fun z => by rw [valV_pos z] at hn; cases hn
    rw [valV_neg hk] at hn
    have ih := valV_snoc k j y r hn
    by_cases e : p.1 = j
    · rw [valV_pos e, valV_pos e, if_neg (fun z => hk (e.trans z))]
    · rw [valV_neg e, valV_neg e, ih]
theorem valV_put (kvs : List (κ × V)) (k j : κ) (y : V) : valV (putK kvs k y) j = if j = k then some y else valV kvs j := by
  unfold putK
  by_cases a : (kvs.any fun kv => decide (kv.1 = k)) = true
  · rw [if_pos a, valV_map]
    rw [valV_any] at a
    by_cases e : j = k
    · obtain ⟨x, hx⟩ := Option.isSome_iff_exists.mp a
      rw [if_pos e, e, hx, Option.map_some, if_pos rfl]
    · rw [if_neg e]
      cases valV kvs j with
      | none => rfl
      | some x => rw [Option.map_some, if_neg e]
  · rw [if_neg a]
    refine valV_snoc k j y kvs ?_
    rw [valV_any] at a
    cases q : valV kvs k with
    | none => rfl
    | some x => rw [q] at a; exact (a rfl).elim
theorem length_putK (kvs : List (κ × V)) (k : κ) (v : V) : (putK kvs k v).length ≤ kvs.length + 1 := by
  unfold putK
  split
  · rw [List.length_map]; omega
  · rw [List.length_append, List.length_cons, List.length_nil]; omega
theorem putK_new {kvs : List (κ × V)} {k : κ} (v : V) (h : valV kvs k = none) : putK kvs k v = kvs ++ [(k, v)] := by
  unfold putK
  rw [valV_any, h]
  exact if_neg (by decide)
theorem RelO.isSome_eq {o : Option V} {u : Option Value} (r : RelO o u) : o.isSome = u.isSome := by
  cases o with
  | none => cases u with
    | none => rfl
    | some _ => exact (show False from r).elim
  | some _ => cases u with
    | none => exact (show False from r).elim
    | some _ => rfl
theorem RelO.getD {o : Option V} {u : Option Value} {d : V} {d' : Value} (r : RelO o u) (rd : RelV d d') : RelV (o.getD d) (u.getD d') := by
  cases o with
  | none => cases u with
    | none => exact rd
    | some _ => exact (show False from r).elim
  | some _ => cases u with
    | none => exact (show False from r).elim
    | some _ => exact r
theorem KV.val {kvs : List (κ × V)} {vs : List (κ × Value)} (r : KV kvs vs) (k : κ) : RelO (valV kvs k) (valueAt vs k) := by
  unfold KV at r
  induction r with
  | nil => exact True.intro
  | @cons p q ps qs h t ih =>
    obtain ⟨h1, h2⟩ := h
    by_cases e : p.1 = k
    · have e' : q.1 = k := h1.symm.trans e
      have b : valueAt (q :: qs) k = some q.2 := by simp [valueAt, List.find?_cons, e']
      rw [valV_pos e, b]; exact h2
    · have e' : ¬ q.1 = k := fun z => e (h1.trans z)
      have b : valueAt (q :: qs) k = valueAt qs k := by simp [valueAt, List.find?_cons, e']
      rw [valV_neg e, b]; exact ih
theorem KV.any {kvs : List (κ × V)} {vs : List (κ × Value)} (r : KV kvs vs) (k : κ) : (kvs.any fun kv => decide (kv.1 = k)) = vs.any fun kv => decide (kv.1 = k) := by
  unfold KV at r
  induction r with
  | nil => rfl
  | cons h t ih => rw [List.any_cons, List.any_cons, ih, h.1]
theorem KV.repl {kvs : List (κ × V)} {vs : List (κ × Value)} (r : KV kvs vs) (k : κ) {y : V} {u : Value} (ry : RelV y u) :
    KV (kvs.map fun kv => if kv.1 = k then (kv.1, y) else kv) (vs.map fun kv => if kv.1 = k then (kv.1, u) else kv) := by
  unfold KV at r ⊢
  induction r with
  | nil => exact .nil
  | @cons p q ps qs h t ih =>
    rw [List.map_cons, List.map_cons]
    refine .cons ?_ ih
    obtain ⟨h1, h2⟩ := h
    by_cases e : p.1 = k
    · rw [if_pos e, if_pos (h1.symm.trans e)]; exact ⟨h1, ry⟩
    · rw [if_neg e, if_neg (fun z => e (h1.trans z))]; exact ⟨h1, h2⟩
theorem KV.put {kvs : List (κ × V)} {vs : List (κ × Value)} (r : KV kvs vs) (k : κ) {y : V} {u : Value} (ry : RelV y u) : KV (putK kvs k y) (stored vs k u) := by
  unfold putK stored
  rw [r.any k]
  by_cases e : (vs.any fun kv => decide (kv.1 = k)) = true
  · rw [if_pos e, if_pos e]; exact r.repl k ry
  · rw [if_neg e, if_neg e]; exact Paired.snoc r ⟨rfl, ry⟩
theorem KV.drop {kvs : List (κ × V)} {vs : List (κ × Value)} (r : KV kvs vs) (k : κ) : KV (dropK kvs k) (without vs k) := by
  unfold KV at r ⊢
  unfold dropK without
  induction r with
  | nil => exact .nil
  | @cons p q ps qs h t ih =>
    obtain ⟨h1, h2⟩ := h
    rw [List.filter_cons, List.filter_cons]
    by_cases e : p.1 = k
    · have a : ¬ decide (p.1 ≠ k) = true := by simp [e]
      have b : ¬ decide (q.1 ≠ k) = true := by simp [h1.symm.trans e]
      rw [if_neg a, if_neg b]; exact ih
    · have e' : ¬ q.1 = k := fun z => e (h1.trans z)
      have a : decide (p.1 ≠ k) = true := by simp [e]
      have b : decide (q.1 ≠ k) = true := by simp [e']
      rw [if_pos a, if_pos b]; exact .cons ⟨h1, h2⟩ ih
theorem KV.length {kvs : List (κ × V)} {vs : List (κ × Value)} (r : KV kvs vs) : kvs.length = vs.length := Paired.length r
end
theorem kV_is {P : Program} {w : World} {k : Key} {u : Value} (r : RelV (kV k) u) : (mixKind P w).is k u = true := by
  cases k with
  | inl i => obtain ⟨t, e⟩ := (show ∃ t, u = Value.int i t from r); subst e; exact mixKind_int P w i t
  | inr x => obtain ⟨t, e⟩ := (show ∃ t, u = Value.str x t from r); subst e; exact mixKind_str P w x t
theorem items_are {P : Program} {w : World} : ∀ {ks : List Key} {us : List Value}, Vals (ks.map kV) us → ItemsAre (mixKind P w) ks us
  | [], _, r => by rw [List.map_nil] at r; cases r; exact .nil
  | k :: ks, _, r => by
    rw [List.map_cons] at r
    cases r with
    | cons h t => exact .cons (kV_is h) (items_are t)
abbrev KT (H : Hp) : List (List Key × V) → List (List Key × Addr × Value) → Prop := Paired fun p q => p.1 = q.1 ∧ H q.2.1 = some (.tup (p.1.map kV)) ∧ RelV p.2 q.2.2
theorem KT.val {H : Hp} {kvs : List (List Key × V)} {xs : List (List Key × Addr × Value)} (r : KT H kvs xs) (k : List Key) : RelO (valV kvs k) ((atKey xs k).map (·.2)) := by
  induction r with
  | nil => exact True.intro
  | @cons p q ps qs h t ih =>
    obtain ⟨h1, _, h2⟩ := h
    by_cases e : p.1 = k
    · have e' : q.1 = k := h1.symm.trans e
      have b : atKey (q :: qs) k = some q.2 := by simp [atKey, List.find?_cons, e']
      rw [valV_pos e, b]; exact h2
    · have e' : ¬ q.1 = k := fun z => e (h1.trans z)
      have b : atKey (q :: qs) k = atKey qs k := by simp [atKey, List.find?_cons, e']
      rw [valV_neg e, b]; exact ih
theorem KT.repl {H : Hp} {kvs : List (List Key × V)} {xs : List (List Key × Addr × Value)} (r : KT H kvs xs) (k : List Key) {y : V} {u : Value} (ry : RelV y u) :
    KT H (kvs.map fun kv => if kv.1 = k then (kv.1, y) else kv) (xs.map (putAt k u)) := by
  induction r with
  | nil => exact .nil
  | @cons p q ps qs h t ih =>
    rw [List.map_cons, List.map_cons]
    refine .cons ?_ ih
    obtain ⟨h1, h2, h3⟩ := h
    unfold putAt
    by_cases e : p.1 = k
    · rw [if_pos e, if_pos (h1.symm.trans e)]; exact ⟨h1, h2, ry⟩
    · rw [if_neg e, if_neg (fun z => e (h1.trans z))]; exact ⟨h1, h2, h3⟩
theorem KT.put {H : Hp} {kvs : List (List Key × V)} {xs : List (List Key × Addr × Value)} (r : KT H kvs xs) (k : List Key) {b : Addr} {y : V} {u : Value} (hb : H b = some (.tup (k.map kV))) (ry : RelV y u) :
    KT H (putK kvs k y) (storedH xs k b u) := by
  have e : (kvs.any fun kv => decide (kv.1 = k)) = (atKey xs k).isSome := by
    rw [valV_any, (r.val k).isSome_eq, Option.isSome_map]
  unfold putK storedH
  rw [e]
  by_cases q : (atKey xs k).isSome = true
  · rw [if_pos q, if_pos q]; exact r.repl k ry
  · rw [if_neg q, if_neg q]; exact Paired.snoc r ⟨rfl, hb, ry⟩
theorem KT.keeps {H H' : Hp} {kvs : List (List Key × V)} {xs : List (List Key × Addr × Value)} (r : KT H kvs xs) (ht : ∀ b ys, H b = some (.tup ys) → H' b = some (.tup ys)) : KT H' kvs xs :=
  Paired.mapP r fun _ _ z => ⟨z.1, ht _ _ z.2.1, z.2.2⟩
section
variable {P : Program} {w : World} {H : Hp} {h : Heap} {a : Addr}
theorem rd_of {u : HO} (ok : HOk P w H h) (e : Rd H a u) : ObjOk P w H h a u := e.ok ok
theorem dk_rd {kvs : List (Key × V)} (ok : HOk P w H h) (e : Rd H a (.dK kvs)) : kvs.length ≤ sizeLine ∧ (a == sysModules) = false ∧ ∃ vs, KV kvs vs ∧ h.DictOf (mixKind P w) a vs :=
  show ObjOk P w H h a (.dK kvs) from rd_of ok e
theorem dk_of {kvs : List (Key × V)} (ok : HOk P w H h) (e : H a = some (.dK kvs)) : kvs.length ≤ sizeLine ∧ (a == sysModules) = false ∧ ∃ vs, KV kvs vs ∧ h.DictOf (mixKind P w) a vs := dk_rd ok (.inl e)
theorem key_of {ks : List Key} (ok : HOk P w H h) (e : H a = some (.tup (ks.map kV))) : (tupleKind (mixKind P w)).is h ks a := by
  obtain ⟨_, its, r, o, h1, h2, ⟨n, h3⟩, _⟩ := (show ObjOk P w H h a (.tup (ks.map kV)) from ok a _ e)
  exact ⟨o, its.toArray, n, h1, h2, h3, by simpa using items_are r⟩
theorem dt_rd {kvs : List (List Key × V)} (ok : HOk P w H h) (e : Rd H a (.dT kvs)) : kvs.length ≤ sizeLine ∧ (a == sysModules) = false ∧
    ∃ xs, KT H kvs xs ∧ h.DictOfH (tupleKind (mixKind P w)) a xs := by
  obtain ⟨z, y, xs, r, o, es, ep, h1, h2, h3, h4, h5⟩ := (show ObjOk P w H h a (.dT kvs) from rd_of ok e)
  refine ⟨z, y, xs, r, o, es, ep, h1, h2, h3, h4, fun x hx => ?_, h5⟩
  have all : ∀ {l : List (List Key × V)} {m : List (List Key × Addr × Value)}, KT H l m → ∀ x ∈ m, (tupleKind (mixKind P w)).is h x.1 x.2.1 := by
    intro l m q
    induction q with
    | nil => intro x hx; exact nomatch hx
    | @cons p q ps qs hq t ih =>
      intro x hx
      rcases List.mem_cons.mp hx with e | hx
      · subst e
        exact key_of ok (by rw [← hq.1]; exact hq.2.1)
      · exact ih x hx
  exact all r x hx
theorem dt_of {kvs : List (List Key × V)} (ok : HOk P w H h) (e : H a = some (.dT kvs)) : kvs.length ≤ sizeLine ∧ (a == sysModules) = false ∧
    ∃ xs, KT H kvs xs ∧ h.DictOfH (tupleKind (mixKind P w)) a xs := dt_rd ok (.inl e)
end
def DGet (H : Hp) (a : Addr) (y : V) (r : Option V) : Prop :=
  (∃ kvs k, Rd H a (.dK kvs) ∧ y = kV k ∧ r = valV kvs k) ∨ ∃ kvs k b, Rd H a (.dT kvs) ∧ y = .ref b ∧ H b = some (.tup (k.map kV)) ∧ r = valV kvs k
def DPut (H : Hp) (a : Addr) (y v : V) (H' : Hp) : Prop :=
  (∃ kvs k, H a = some (.dK kvs) ∧ y = kV k ∧ kvs.length < sizeLine ∧ H' = upd H a (.dK (putK kvs k v))) ∨
  ∃ kvs k b, H a = some (.dT kvs) ∧ y = .ref b ∧ H b = some (.tup (k.map kV)) ∧ kvs.length < sizeLine ∧ H' = upd H a (.dT (putK kvs k v))
theorem DGet.k {H : Hp} {a : Addr} {kvs : List (Key × V)} {k : Key} (e : H a = some (.dK kvs)) : DGet H a (kV k) (valV kvs k) := .inl ⟨kvs, k, .inl e, rfl, rfl⟩
theorem DPut.k {H : Hp} {a : Addr} {kvs : List (Key × V)} {k : Key} {v : V} (e : H a = some (.dK kvs)) (hl : kvs.length < sizeLine) : DPut H a (kV k) v (upd H a (.dK (putK kvs k v))) := .inl ⟨kvs, k, e, rfl, hl, rfl⟩
section
variable {X : Cx} {pins : List (Addr × Obj)} {σ : St} {H : Hp} {s : Shared} {a : Addr} {y v : V} {u r : Value} {o : Option V} {A : Around} {E : Value → Shared → Prop}
theorem Inv.big (I : Inv X pins σ H s) : sysModules < s.heap.objs.size := by
  have h : mainGlobals < s.heap.objs.size := (I.mod.glob.keeps I.bk).lt
  exact Nat.lt_trans (by decide) h
theorem d_getItem {Q : Value → Shared → Prop} (hu : A.units + 1 < cLine) (I : Inv X pins σ H s) (g : DGet H a y (some v)) (ry : RelV y u) (h : ∀ w' s', Inv X pins σ H s' → RelV v w' → Q w' s') :
    wpAny (model X.prog X.w) A (getItem (.ref a) u) Q E s := by
  rcases g with ⟨kvs, k, e, ey, l⟩ | ⟨kvs, k, b, e, ey, eb, l⟩
  · subst ey
    obtain ⟨z, hd, vs, rel, dd⟩ := dk_rd I.hok e
    obtain ⟨w', hw, rw'⟩ := RelO.some_of (v := v) (o := valueAt vs k) (by rw [l]; exact rel.val k)
    exact wpAny_getItem_of (kV_is ry) dd.mapOf hw (h w' _ (I.tok _) rw')
  · subst ey
    cases (show u = Value.ref b from ry)
    obtain ⟨z, hd, xs, rel, dd⟩ := dt_rd I.hok e
    obtain ⟨w', hw, rw'⟩ := RelO.some_of (v := v) (o := (atKey xs k).map (·.2)) (by rw [l]; exact rel.val k)
    obtain ⟨p, hp, hp2⟩ := Option.map_eq_some_iff.mp hw
    refine wpAny_getItem_heap (tupleKind_room_in1 hu) (key_of I.hok eb) dd hp ?_
    rw [hp2]
    exact h w' _ (I.tok _) rw'
theorem d_in {Q : Value → Shared → Prop} (hu : A.units + 1 < cLine) (I : Inv X pins σ H s) (g : DGet H a y o) (ry : RelV y u) (h : ∀ s', Inv X pins σ H s' → Q (.bool o.isSome) s') :
    wpAny (model X.prog X.w) A (compareOp .In u (.ref a)) Q E s := by
  rcases g with ⟨kvs, k, e, ey, l⟩ | ⟨kvs, k, b, e, ey, eb, l⟩
  · subst ey
    obtain ⟨z, hd, vs, rel, dd⟩ := dk_rd I.hok e
    refine wpAny_in_of (kV_is ry) hd dd.mapOf ?_
    rw [← (rel.val k).isSome_eq, ← l]
    exact h _ (I.tok _)
  · subst ey
    cases (show u = Value.ref b from ry)
    obtain ⟨z, hd, xs, rel, dd⟩ := dt_rd I.hok e
    refine wpAny_in_heap (tupleKind_room_in1 hu) (key_of I.hok eb) hd dd ?_
    have q := (rel.val k).isSome_eq
    rw [Option.isSome_map] at q
    rw [← q, ← l]
    exact h _ (I.tok _)
theorem d_write {h' : Heap} {t' : Nat} {ob : HO} (I : Inv X pins σ H s) (mu : Mut (H a)) (hs : Heap.SameBut a s.heap h') (he : ∃ q, h'.get? a = some q) (new : ObjOk X.prog X.w (upd H a ob) h' a ob) :
    Inv X pins σ (upd H a ob) { s with heap := h', toks := t' } :=
  I.write (x := a) (e := a) mu (.inl rfl) (fun b q hb z => (hs.2 b hb).trans z) he new
theorem dk_new {P : Program} {w : World} {H' : Hp} {h' : Heap} {kvs : List (Key × V)} {vs : List (Key × Value)} (z : kvs.length ≤ sizeLine) (hd : (a == sysModules) = false) (rel : KV kvs vs) (dd : h'.DictOf (mixKind P w) a vs) :
    ObjOk P w H' h' a (.dK kvs) := ⟨z, hd, vs, rel, dd⟩
theorem d_setItem {H' : Hp} {Q : Unit → Shared → Prop} (hu : A.units + 1 < cLine) (I : Inv X pins σ H s) (g : DPut H a y v H') (ry : RelV y u) (rv : RelV v r) (h : ∀ s', Inv X pins σ H' s' → Q () s') :
    wpAny (model X.prog X.w) A (setItem (.ref a) u r) Q E s := by
  rcases g with ⟨kvs, k, e, ey, l, eH⟩ | ⟨kvs, k, b, e, ey, eb, l, eH⟩
  · subst ey eH
    obtain ⟨z, hd, vs, rel, dd⟩ := dk_of I.hok e
    have hz : vs.length ≤ sizeLine := by rw [← rel.length]; exact z
    have hl : (putK kvs k v).length ≤ sizeLine := by have := length_putK kvs k v; omega
    refine wpAny_setItem_pairs (hsz := hz) (kV_is ry) dd fun h' dd' hs => h _ ?_
    have he : ∃ q, h'.get? a = some q := let ⟨q, _, _, hq, _⟩ := dd'; ⟨q, hq⟩
    exact d_write I (by rw [e]; exact True.intro) hs he (dk_new hl hd (rel.put k rv) dd')
  · subst ey eH
    cases (show u = Value.ref b from ry)
    obtain ⟨z, hd, xs, rel, dd⟩ := dt_of I.hok e
    have hz : xs.length ≤ sizeLine := by rw [← Paired.length rel]; exact z
    have hl : (putK kvs k v).length ≤ sizeLine := by have := length_putK kvs k v; omega
    refine wpAny_setItem_heap (hsz := hz) (tupleKind_room_in1 hu) (key_of I.hok eb) dd fun h' dd' hs => h _ ?_
    obtain ⟨q, es, ep, hq, h2, h3, h4, _, h5⟩ := dd'
    refine d_write I (by rw [e]; exact True.intro) hs ⟨q, hq⟩ ⟨hl, hd, _, (rel.put k eb rv).keeps fun c ys ec => ?_, q, es, ep, hq, h2, h3, h4, h5⟩
    rw [upd_ne (ne_of ec e (fun z => nomatch z))]
    exact ec
end
section
variable {X : Cx} {pins : List (Addr × Obj)} {σ : St} {H : Hp} {s : Shared} {a : Addr} {kvs : List (Key × V)} {k : Key} {u : Value} {A : Around} {E : Value → Shared → Prop}
end
def NoSl (i : Expr) : Prop := ∀ ov iv, subscripted i false ov iv = operate [ov, iv] (getItem ov iv)
theorem subD_of {prog : Program} {w : World} {A : Around} {E : Value → Shared → Prop} {s : Shared} {env : Env} {value slice : Expr} {pos : Pos} {T id : String} {Q : Value → Shared → Prop}
    (hl : typeLookup (.type T) "__getitem__" = pure (some (.builtin id))) (hs : NoSl slice)
    (h : wpAny (model prog w) A (eval value env) (fun o s₁ => wpAny (model prog w) A (eval slice env) (fun i s₂ => s₂.TypeIs o T ∧ wpAny (model prog w) A (getItem o i) Q E s₂) E s₁) E s) :
    wpAny (model prog w) A (eval (.Subscript value slice pos) env) Q E s := by
  refine Subscript_ (wpAny_mono h (fun o s₁ h₁ => wpAny_mono h₁ (fun i s₂ h₂ => ?_) fun _ _ x => x) fun _ _ x => x)
  obtain ⟨hT, h₂⟩ := h₂
  unfold subscriptTail
  refine wpAny_bind ?_
  rw [getitemInPython_of_ne hT.not_modules]
  refine wpAny_bind (wpAny_specialOf hT hl ?_)
  have fin : wpAny (model prog w) A (subscripted slice false o i) (fun r s₃ => wpAny (model prog w) A (letTemporaryGo value o r >>= fun _ => pure r) Q E s₃) E s₂ := by
    rw [hs o i]
    exact wpAny_operating (wpAny_mono h₂ (fun r s₃ h₃ => wpAny_bind (wpAny_letTemporaryGo (wpAny_pure h₃))) fun _ _ x => x)
  first
    | exact wpAny_pure (wpAny_bind fin)
    | exact wpAny_bind (wpAny_pure (wpAny_bind fin))
    | exact wpAny_bind fin
theorem dict_typeIs {X : Cx} {pins : List (Addr × Obj)} {σ : St} {H : Hp} {s : Shared} {a : Addr} {y : V} {o : Option V} (I : Inv X pins σ H s) (g : DGet H a y o) : s.TypeIs (.ref a) "dict" := by
  rcases g with ⟨kvs, k, e, _, _⟩ | ⟨kvs, k, b, e, _, _, _⟩
  · obtain ⟨_, _, vs, _, dd⟩ := dk_rd I.hok e
    exact dd.typeIs
  · obtain ⟨_, _, xs, _, dd⟩ := dt_rd I.hok e
    exact dd.typeIs
def tDGet (td ty : TE) : TE := fun σ H Q => td σ H fun x H1 => ty σ H1 fun y H2 => ∃ a v, x = .ref a ∧ DGet H2 a y (some v) ∧ Q v H2
def tDIn (ty td : TE) : TE := fun σ H Q => ty σ H fun y H1 => td σ H1 fun x H2 => ∃ a o, x = .ref a ∧ DGet H2 a y o ∧ Q (.bl o.isSome) H2
def tDNotIn (ty td : TE) : TE := fun σ H Q => ty σ H fun y H1 => td σ H1 fun x H2 => ∃ a o, x = .ref a ∧ DGet H2 a y o ∧ Q (.bl (!o.isSome)) H2
def sDPut (td ty tv : TE) : TS := fun D σ H => tv σ H fun v H1 => td σ H1 fun x H2 => ty σ H2 fun y H3 => ∃ a H4, x = .ref a ∧ DPut H3 a y v H4 ∧ D.nx σ H4
def sDAug (td ty tv : TE) (rd : V → V → Hp → VK → Prop) : TS := fun D σ H => td σ H fun x H1 => ty σ H1 fun y H2 => ∃ a v, x = .ref a ∧ DGet H2 a y (some v) ∧
  tv σ H2 fun y2 H3 => rd v y2 H3 fun z H4 => ∃ H5, DPut H4 a y z H5 ∧ D.nx σ H5
def sDDel (td ty : TE) : TS := fun D σ H => td σ H fun x H1 => ty σ H1 fun y H2 => ∃ a kvs k, x = .ref a ∧ H2 a = some (.dK kvs) ∧ y = kV k ∧ (valV kvs k).isSome = true ∧ D.nx σ (upd H2 a (.dK (dropK kvs k)))
section
variable {X : Cx} {o i e value : Expr} {pos pos' tpos : Pos} {td ty tv : TE}
theorem pe_dget (hu : X.A.units + 1 < cLine) (ho : PE X o td) (hi : PE X i ty) (hs : NoSl i) : PE X (.Subscript o i pos) (tDGet td ty) := by
  intro pins s σ H Q I h
  refine subD_of PySem.F.slot_dict_getitem.lookup hs (thn (ho pins s σ H _ I h) fun u s1 ⟨x, H1, I1, rx, q1⟩ => thn (hi pins s1 σ H1 _ I1 q1) fun iv s2 ⟨y, H2, I2, ry, a, v, ex, g, q2⟩ => ?_)
  subst ex
  obtain rfl : u = Value.ref a := rx
  exact ⟨dict_typeIs I2 g, d_getItem hu I2 g ry fun w' s3 I3 rw' => ⟨v, H2, I3, rw', q2⟩⟩
theorem pc_din (hu : X.A.units + 1 < cLine) (hi : PE X i ty) (ho : PE X o td) : PC X .In i o (tDIn ty td) := by
  intro pins s σ H Q I h
  refine thn (hi pins s σ H _ I h) fun iv s1 ⟨y, H1, I1, ry, q1⟩ => thn (ho pins s1 σ H1 _ I1 q1) fun u s2 ⟨x, H2, I2, rx, a, ov, ex, g, q2⟩ => ?_
  subst ex
  obtain rfl : u = Value.ref a := rx
  exact d_in hu I2 g ry fun s3 I3 => ⟨.bl ov.isSome, H2, I3, rfl, q2⟩
theorem ps_dput (hu : X.A.units + 1 < cLine) (ho : PE X o td) (hi : PE X i ty) (hv : PE X value tv) (hs : swapsWith value (some (.Subscript o i pos')) pos.line X.env = pure false) :
    PS X (.Assign [.Subscript o i pos'] value pos) (sDPut td ty tv) := by
  intro pins s σ H D I h
  refine wpAny_Assign_Subscript (thn (hv pins s σ H _ I h) fun r s1 ⟨v, H1, I1, rv, q1⟩ => thn (ho pins s1 σ H1 _ I1 q1) fun u s2 ⟨x, H2, I2, rx, q2⟩ => thn (hi pins s2 σ H2 _ I2 q2) fun iv s3 ⟨y, H3, I3, ry, a, H4, ex, g, q3⟩ => ?_) hs
  subst ex
  obtain rfl : u = Value.ref a := rx
  exact d_setItem hu I3 g ry rv fun s4 I4 => ⟨σ, H4, I4, q3⟩
end
theorem dk_empty {P : Program} {w : World} {H : Hp} (h : Heap) (hb : sysModules < h.objs.size) : ObjOk P w H (h.push { cls := .type "dict", data := .dict #[] }) h.objs.size (.dK []) :=
  ⟨Nat.zero_le _, beq_eq_false_iff_ne.mpr (Ne.symm (Nat.ne_of_lt hb)), [], .nil, Heap.DictOf.new h⟩
def tDNewK : TE := fun _ H Q => ∀ p, H p = none → Q (.ref p) (upd H p (.dK []))
def tDNewT : TE := fun _ H Q => ∀ p, H p = none → Q (.ref p) (upd H p (.dT []))
section
variable {X : Cx} {pos : Pos}
theorem pe_dnewK : PE X (.Dict [] [] pos) tDNewK := fun pins s σ H Q I h =>
  wpAny_Dict_empty ⟨.ref s.heap.objs.size, _, I.laid (a := s.heap.objs.size) (o := .dK []) (t' := s.toks) (fun _ _ q => Heap.get?_push_of_some _ q) (Nat.le_refl _) (dk_empty s.heap I.big), rfl, h _ (I.hok.fresh (Nat.le_refl _))⟩
end
def tPairs : List (TE × TE) → St → Hp → (List (V × V) → Hp → Prop) → Prop
  | [], _, H, Q => Q [] H
  | (tk, tv) :: r, σ, H, Q => tk σ H fun x H1 => tv σ H1 fun y H2 => tPairs r σ H2 fun ps H3 => Q ((x, y) :: ps) H3
abbrev VV : List (V × V) → List (Value × Value) → Prop := Paired fun p q => RelV p.1 q.1 ∧ RelV p.2 q.2
def PPs (X : Cx) (pos : Pos) (keys : List (Option Expr)) (values : List Expr) (trs : List (TE × TE)) : Prop :=
  ∀ (pins : List (Addr × Obj)) (s : Shared) (σ : St) (H : Hp) (Q : List (V × V) → Hp → Prop), Inv X pins σ H s → tPairs trs σ H Q →
    wpAny (model X.prog X.w) X.A (evalPairs (pairTrees keys values X.env pos)) (fun vs s' => ∃ ps H', Inv X pins σ H' s' ∧ VV ps vs ∧ Q ps H') X.xe s
def mergeK (kvs more : List (Key × V)) : List (Key × V) := more.foldl (fun acc kv => putK acc kv.1 kv.2) kvs
def tDisp (trs : List (TE × TE)) : TE := fun σ H Q => ∀ p, H p = none → tPairs trs σ (upd H p (.dK [])) fun ps H2 => H2 p = some (.dK []) ∧ ∃ kvs : List (Key × V), ps = kvs.map (fun kv => (kV kv.1, kv.2)) ∧ kvs.length ≤ 15 ∧ Q (.ref p) (upd H2 p (.dK (mergeK [] kvs)))
structure M1 (X : Cx) (o : Expr) (m : Str) (apos : Pos) (e : Expr) (cpos : Pos) : Prop where
  base : attributeBase o m X.env (eval o X.env) = eval o X.env
  few : ((backTo cpos (starEach [e] X.env)).all (fun x => !x.1) && (backToKw cpos (keywordEach [] X.env)).all (fun x => x.1.isSome)
    && decide (([e] : List Expr).length + ([] : List Keyword).length + (if ([] : List Keyword).isEmpty then 0 else 1) < 30)) = true
  line : (apos.endLine == cpos.line) = true
  trees : backTo cpos (starEach [e] X.env) = [(false, eval e X.env)]
structure M2 (X : Cx) (o : Expr) (m : Str) (apos : Pos) (e f : Expr) (cpos : Pos) : Prop where
  base : attributeBase o m X.env (eval o X.env) = eval o X.env
  few : ((backTo cpos (starEach [e, f] X.env)).all (fun x => !x.1) && (backToKw cpos (keywordEach [] X.env)).all (fun x => x.1.isSome)
    && decide (([e, f] : List Expr).length + ([] : List Keyword).length + (if ([] : List Keyword).isEmpty then 0 else 1) < 30)) = true
  line : (apos.endLine == cpos.line) = true
  trees : backTo cpos (starEach [e, f] X.env) = [(false, eval e X.env), (false, eval f X.env)]
def IsD (H : Hp) (a : Addr) : Prop := (∃ kvs, Rd H a (.dK kvs)) ∨ ∃ kvs, Rd H a (.dT kvs)
section
variable {X : Cx} {pins : List (Addr × Obj)} {σ : St} {H : Hp} {s : Shared} {a : Addr} {y d : V} {u r : Value} {o : Option V} {A : Around} {E : Value → Shared → Prop}
end
def tDGet1 (td ty : TE) : TE := fun σ H Q => td σ H fun x H1 => ∃ a, x = .ref a ∧ IsD H1 a ∧ ty σ H1 fun y H2 => ∃ o, DGet H2 a y o ∧ Q (o.getD .non) H2
def tDGet2 (td ty tx : TE) : TE := fun σ H Q => td σ H fun x H1 => ∃ a, x = .ref a ∧ IsD H1 a ∧ ty σ H1 fun y H2 => tx σ H2 fun z H3 => ∃ o, DGet H3 a y o ∧ Q (o.getD z) H3
def tDPop1 (td ty : TE) : TE := fun σ H Q => td σ H fun x H1 => ∃ a, x = .ref a ∧ IsD H1 a ∧ ty σ H1 fun y H2 => ∃ kvs k v, H2 a = some (.dK kvs) ∧ y = kV k ∧ valV kvs k = some v ∧ Q v (upd H2 a (.dK (dropK kvs k)))
def tDPop2 (td ty tx : TE) : TE := fun σ H Q => td σ H fun x H1 => ∃ a, x = .ref a ∧ IsD H1 a ∧ ty σ H1 fun y H2 => tx σ H2 fun z H3 => ∃ kvs k, H3 a = some (.dK kvs) ∧ y = kV k ∧
  (∀ v, valV kvs k = some v → Q v (upd H3 a (.dK (dropK kvs k)))) ∧ (valV kvs k = none → Q z H3)
section
variable {X : Cx} {o e f : Expr} {apos cpos : Pos} {td ty tx : TE}
end
section
variable {X : Cx} {pins : List (Addr × Obj)} {σ : St} {H : Hp} {s : Shared} {a : Addr} {kvs : List (Key × V)} {A : Around} {E : Value → Shared → Prop}
end
section
variable {X : Cx} {pins : List (Addr × Obj)} {σ : St} {H : Hp} {s : Shared} {a : Addr} {y : V} {u : Value} {A : Around} {E : Value → Shared → Prop}
end
end L2
namespace Att
open PySem PySem.W PySem.Calls PyProof.Rows
theorem ints_of_wellAll {P : Params} {h : Heap} : ∀ (ns : List Int) (vs : List Value), WellAll P h vs (ns.map WData.int) → IntsAre vs ns := by
  intro ns
  induction ns with
  | nil =>
    intro vs w
    rw [List.map_nil] at w
    cases w
    exact .nil
  | cons n ns ih =>
    intro vs w
    rw [List.map_cons] at w
    cases w with
    | cons a b =>
      cases a
      exact .cons _ _ (ih _ b)
theorem script_of {l : OpenLaw} {n : Nat} (hn : l.most = some n) {P : Params} {h : Heap} {args : List WData} {vals : List Value}
    (hpre : l.row.toRowW.claim.pre args = true) (hwl : WellAll P h vals args) :
    ∃ a vs ns, vals = [Value.ref a] ∧ args = [WData.list (ns.map WData.int)] ∧ h.get? a = some { cls := .type "list", data := .seq vs.toArray } ∧ IntsAre vs ns ∧ ns.length ≤ n := by
  have hsh : WShape.hasAll [] args [.list .int] = true := (pre_splitW hpre).1
  have hc : l.pre.holds [] { args := args } = true := (pre_splitW hpre).2
  obtain ⟨d, r, rfl, h1, h2⟩ := hasAllW_cons hsh
  obtain rfl := hasAllW_nil h2
  obtain ⟨xs, rfl, h3⟩ := hasW_list h1
  obtain ⟨ns, rfl⟩ := items_int h3
  have hlen : ns.length ≤ n := by
    unfold OpenLaw.pre at hc
    have h4 : (WTm.not (.lt (.lit (.int (n : Int))) (.len (.arg 0)))).holds [] { args := [.list (ns.map .int)] } = true := by
      have h4 := (holds_andW hc).1
      rw [hn] at h4
      exact h4
    have h5 := condW_of h4 (w_not (w_lt w_lit (w_len_list (w_arg rfl))))
    rw [List.length_map] at h5
    refine Nat.le_of_not_lt fun q => ?_
    have q' : (n : Int) < ((ns.length : Nat) : Int) := by omega
    first
      | (rw [decide_eq_true q'] at h5; exact absurd h5 (by decide))
      | (simp at h5; omega)
  cases hwl with
  | cons w1 w2 =>
    cases w2
    cases w1 with
    | list ho hall => exact ⟨_, _, ns, rfl, rfl, ho, ints_of_wellAll ns _ hall, hlen⟩
theorem post_true (l : OpenLaw) (args : List WData) : l.row.toRowW.claim.post args (.bool true) args = true :=
  postW_of (r := l.row.toRowW) (X := (true == true))
    (show WShape.has [] (.bool true) .bool = true by first | rfl | decide | simp [WShape.has, WShape.arms, WShape.armsAll])
    (show (WTm.eq .res (.lit (.bool true))).value [] { args := args, res := some (.bool true), after := args } = some (.bool (true == true)) from w_eq_bool (w_res rfl) w_lit) rfl
theorem attach_call {l : OpenLaw} {n : Nat} {q : Program} {loose : List Str} {XP : (Str → Option Value) → Heap → Prop} {YP : World → Heap → Prop} {d : DefRec}
    (hn : l.most = some n) (hdf : d.params.defaults = [])
    (call : ∀ (w : World) (s₀ s₁ : Shared) (mg mb : Str → Option Value) (fa : Addr) (o : Obj) (pm cd doc : Value) (a : Addr) (vs : List Value) (ns : List Int),
      Ground q loose [] XP w s₀ mg mb s₁.heap → YP w s₁.heap →
      s₁.heap.get? fa = some o → o.data = .func (docDef d.name d.params d.body d.scope pm cd doc) → s₁.heap.CodeRec cd d.name → mg d.name = some (.ref fa) →
      s₁.heap.get? a = some { cls := .type "list", data := .seq vs.toArray } → IntsAre vs ns → ns.length ≤ n → s₁.gens = #[] →
      codeAny (model l.prog w) callerA (.call (.ref fa) ⟨[.ref a], []⟩) (fun r s' => r = .ok (.ret (.bool true)) ∧ OldK s₁.heap s'.heap ∧ s'.os = s₁.os ∧ AllBare s'.gens) s₁) :
    WalkO q loose XP YP l.row.toRowW d [] (fun f vs => PySem.call f vs) := by
  intro w s₀ s₁ mg mb G Y fa o pm cd doc dV kV ho hd hcd hD hmg hg args vals as hpre hlay hrd hwl hlo
  obtain rfl : dV = .none := Dflts.none hD hdf
  obtain rfl : kV = .none := Dflts.noKw hD
  obtain ⟨a, vs, ns, rfl, rfl, hobj, hints, hlen⟩ := script_of hn hpre hwl
  refine enter_call (codeAny_mono (call w s₀ s₁ mg mb fa o pm cd doc a vs ns G Y ho (fd_plain hd) hcd hmg hobj hints hlen hg) fun r s' hq => ?_)
  obtain ⟨rfl, h2, h3, h4⟩ := hq
  exact ⟨.inl ⟨.bool true, .bool true, [], rfl, fun _ => rfl, .bool true, post_true l _, fun _ => ⟨List.Pairwise.nil, fun _ hm => (nomatch hm)⟩⟩, h2, h3, h4⟩
section
variable {prog : Program} {w : World} {A : Around} {E : Value → Shared → Prop} {s : Shared} {K : Frag}
def noObjs (h : Heap) : Heap := { h with objs := #[] }
def ledger (h : Heap) (L d : Addr) : List (Addr × Obj) := (List.range h.objs.size).filterMap fun a => if a = L ∨ a = d then none else (h.get? a).map fun o => (a, o)
end
end Att
namespace L2
open PySem PySem.Spec PyProof.Rows
theorem vals_ints : ∀ {vs : List Value} {ns : List Int}, IntsAre vs ns → Vals (ns.map V.int) vs
  | _, _, .nil => .nil
  | _, _, .cons n t h => .cons ⟨t, rfl⟩ (vals_ints h)
def Only (H : Hp) : Prop := ∀ b, H b = none ∨ ∃ o xs, H b = some (.frz o (.lst xs))
theorem law_call {P : Program} {w : World} {K : PySem.W.Frag} {mg mb : Str → Option Value} {CX : CXT} {k : Nat} {fa a : Addr} {fd : FuncData} {x : Str} {sp : Sp} {s₁ : Shared} {vs : List Value} {ns : List Int}
    (KX : K.In s₁.heap) (hns : s₁.heap.Ns mainGlobals mg) (hb : s₁.heap.Ns builtinsNs mb) (hbb : ∀ x : Str, x ≠ "__name__" → mb x = bootBuiltins x) (hlim : s₁.heap.NoLimit) (hg : s₁.gens = #[])
    (ha : s₁.heap.get? a = some { cls := .type "list", data := .seq vs.toArray }) (hi : IntsAre vs ns) (hl : ns.length ≤ sizeLine) (hr : Room k callerA)
    (F : ∀ base : Heap, K.In base → base.Ns mainGlobals mg → FnOk P w K mg base CX k fa fd [x] sp) (hbind : ∀ (s : Shared) (u : Value), BindsTo s fd ⟨[u], []⟩ [(x, u)])
    (hsp : ∀ H : Hp, Only H → SqL K H a (ns.map V.int) → sp [.ref a] H (fun v _ => v = .bl true) fun _ _ _ => False)
    (hCX : ∀ H e s', CX [] H s₁ (fun _ _ _ => False) e s' → False) :
    codeAny (model P w) callerA (.call (.ref fa) ⟨[.ref a], []⟩) (fun r s' => r = .ok (.ret (.bool true)) ∧ OldK s₁.heap s'.heap ∧ s'.os = s₁.os ∧ AllBare s'.gens) s₁ := by
  have rv := vals_ints hi
  have lenV := hi.length
  -- from an abstract heap in which nothing but the script may be tracked
  have core : ∀ H : Hp, Only H → SqL K H a (ns.map V.int) → HOk P w H s₁.heap → (∀ b, H b ≠ none → b = a) → (H a ≠ none → K.lookup a = none) →
      codeAny (model P w) callerA (.call (.ref fa) ⟨[.ref a], []⟩) (fun r s' => r = .ok (.ret (.bool true)) ∧ OldK s₁.heap s'.heap ∧ s'.os = s₁.os ∧ AllBare s'.gens) s₁ := by
    intro H hO hS hok hA hK
    have base_of : ∀ {b : Addr} {o : Obj}, s₁.heap.get? b = some o → H b = none → (hidT s₁.heap H).get? b = some o := fun e n => hidT_get e n
    have noA : ∀ {b : Addr} {o : Obj} {es : Array DictEntry} {ep : Nat}, s₁.heap.get? b = some o → o.data = .dict es ep → H b = none := fun {b o es ep} e d => by
      cases q : H b with
      | none => rfl
      | some u =>
        have e' : b = a := hA b (by rw [q]; simp)
        subst e'
        rw [ha] at e; cases e
        have d' : Data.seq vs.toArray _ = Data.dict es ep := d
        cases d'
    have nsK : ∀ {b : Addr} {m : Str → Option Value}, s₁.heap.Ns b m → (hidT s₁.heap H).Ns b m := fun {b m} ⟨o, es, ep, e, d, r⟩ => ⟨o, es, ep, base_of e (noA e d), d, r⟩
    have hKb : K.In (hidT s₁.heap H) := fun b o e => base_of (KX b o e) (by
      cases q : H b with
      | none => rfl
      | some u =>
        have e' : b = a := hA b (by rw [q]; simp)
        subst e'
        rw [hK (by rw [q]; simp)] at e; cases e)
    have hM : Mod K mg (hidT s₁.heap H) := ⟨hKb, nsK hns, ⟨mb, nsK hb, hbb⟩, let ⟨mc, h1, h2⟩ := hlim; ⟨mc, nsK h1, h2⟩⟩
    have e0 : Env0 P w K mg (hidT s₁.heap H) callerA [] s₁ H := ⟨rfl, hM, fun b o e => of_hidT e, Nat.le_of_eq (hidT_size _ _), trivial, fun b hb => absurd (show b ∈ ([] : List Addr) from hb) (by simp), hok, .of_eq hg⟩
    refine codeAny_mono ((F _ hKb (nsK hns)).run callerA [] s₁ H ⟨[.ref a], []⟩ [.ref a] [.ref a] _ _ hr e0 (hbind s₁ (.ref a)) (.cons rfl .nil) (hsp H hO hS)) fun r s' h => ?_
    cases r with
    | error e => exact (hCX H e s' h).elim
    | ok fl =>
      cases fl with
      | next => exact False.elim h
      | brk => exact False.elim h
      | cont => exact False.elim h
      | ret u =>
        obtain ⟨v, H', os, bare, un, hok', r', q⟩ := h
        have q' : v = .bl true := q
        subst q'
        obtain rfl : u = Value.bool true := r'
        refine ⟨rfl, OldK.of_keep fun b o e => ?_, os, bare⟩
        cases q : H b with
        | none => exact un.keep b o e q (by intro z; exact absurd (show b ∈ ([] : List Addr) from z) (by simp)) (by simp)
        | some u =>
          rcases hO b with z | ⟨ob, xs, z⟩
          · rw [q] at z; cases z
          · have z2 := un.frzs b ob _ z
            obtain ⟨e1, _⟩ := hok b _ z
            obtain ⟨e2, _⟩ := hok' b _ z2
            rw [e] at e1; cases e1
            exact e2
  cases hk : K.lookup a with
  | some o =>
    -- the script is one of the module's own objects
    have e := KX a o hk
    rw [ha] at e
    cases e
    refine core (fun _ => none) (fun _ => .inl rfl) (.inr ⟨_, vs.toArray, _, hk, rfl, rfl, rfl, by rw [List.size_toArray, lenV]; exact hl, by simpa using rv⟩) (fun b u z => by have z' : (none : Option HO) = some u := z; cases z') (fun b z => absurd rfl z) fun z => absurd rfl z
  | none =>
    refine core (fun b => if b = a then some (.frz { cls := .type "list", data := .seq vs.toArray } (.lst (ns.map V.int))) else none) (fun b => ?_) (.inl (.inr ⟨{ cls := .type "list", data := .seq vs.toArray }, if_pos rfl⟩)) (fun b u z => ?_) (fun b z => ?_) fun _ => hk
    · by_cases hb : b = a
      · exact .inr ⟨_, _, if_pos hb⟩
      · exact .inl (if_neg hb)
    · by_cases hb : b = a
      · have z' := (if_pos hb).symm.trans z
        cases z'
        subst hb
        exact ⟨ha, by rw [List.length_map]; exact hl, vs, _, rv, ha⟩
      · have z' := (if_neg hb).symm.trans z
        cases z'
    · by_cases hb : b = a
      · exact hb
      · exact absurd (if_neg hb) z
end L2
namespace L2
open PySem PySem.Spec PyProof.Rows
abbrev KOf {K : PySem.W.Frag} {h : Heap} (_ : K.In h) : PySem.W.Frag := K
theorem walk_of {l : PySem.W.OpenLaw} {n k : Nat} {q : Program} {loose : List Str} {XP : (Str → Option Value) → Heap → Prop} {YP : World → Heap → Prop} {d : DefRec} {K : Params → PySem.W.Frag} {CX : World → CXT} {sp : World → Sp} {x : Str}
    (hn : l.most = some n) (hn2 : n ≤ sizeLine) (hdf : d.params.defaults = []) (hr : Room k callerA)
    (hY : ∀ (w : World) (h : Heap), YP w h → (K w.params).In h)
    (F : ∀ (w : World) (mg : Str → Option Value) (fa : Addr) (h : Heap), (K w.params).In h → h.Ns mainGlobals mg → mg d.name = some (.ref fa) →
      ∃ fd : FuncData, (∀ (s : Shared) (u : Value), BindsTo s fd ⟨[u], []⟩ [(x, u)]) ∧
        ∀ base : Heap, (K w.params).In base → base.Ns mainGlobals mg → FnOk l.prog w (K w.params) mg base (CX w) k fa fd [x] (sp w))
    (hsp : ∀ (w : World) (H : Hp) (a : Addr) (ns : List Int), ns.length ≤ n → Only H → SqL (K w.params) H a (ns.map V.int) → sp w [.ref a] H (fun v _ => v = .bl true) fun _ _ _ => False)
    (hCX : ∀ (w : World) (H : Hp) (s : Shared) (e : Value) (s' : Shared), CX w [] H s (fun _ _ _ => False) e s' → False) :
    PySem.W.WalkO q loose XP YP l.row.toRowW d [] (fun f vs => PySem.call f vs) := by
  refine Att.attach_call hn hdf fun w s₀ s₁ mg mb fa o pm cd doc a vs ns G Y ho hd hcd hmg hobj hints hlen hg => ?_
  have KX := hY w _ Y
  obtain ⟨fd, hb, hF⟩ := F w mg fa _ KX G.T.g hmg
  exact law_call KX G.T.g G.T.b G.T.builtins G.T.nolimit hg hobj hints (Nat.le_trans hlen hn2) hr hF hb (fun H hO hS => hsp w H a ns hlen hO hS) fun H e s' => hCX w H s₁ e s'
end L2
/- THE LAST THEOREM (shape; LID, My.* are yours):
   My.Adr: a structure of the addresses that your layer names (classes, functions); My.Txt K t: a structure (Prop) of the equations over K;
   My.txt_mk : {K} {implicit addresses ..} (e1 : nsIn K mainGlobals "law" = some (some (.ref f))) (e2 : K.lookup f = some ⟨oc, od, .func (fnOf "law" "law" params body scope dV kV doc pm an cdv ct), sl⟩) (e3 : codeIn K cdv "law" = true) .. : ∃ t, My.Txt K t
set_option maxRecDepth 100000 in
set_option maxHeartbeats 0 in
theorem PySem.Challenge.cw_LID_holds : PySem.Challenge.rw_LID.Holds := by
  w_on; o_law; k_head; (case hw => w_witness2)
  k_fill
  refine L2.walk_of (l := PySem.Challenge.rw_LID) (n := 63) (k := 40) (x := "script") (CX := fun w => ..) (sp := fun _ => My.sp_law) rfl (by decide) rfl ⟨rfl, by decide, by decide⟩ (fun w h Y => PySem.W.kIn_of Y) ?F ?S ?C
  case F =>
    intro w mg fa h KX G hmg
    have T : ∃ t, My.Txt (L2.KOf KX) t := by
      dsimp only [L2.KOf]                          -- K must stand as «<heap const> w.params» for k_is
      refine' My.txt_mk ?e1 ?e2 ?e3 ..
      (case e1 => PySem.W.k_is)                    -- in the order: a name -> its address -> its object -> its parts
      (case e2 => PySem.W.k_is)
      ..
    obtain ⟨t, T⟩ := T
    have e0 := hmg.symm.trans (PySem.W.mg_of KX G T.law)
    cases e0                                       -- fa is the law's own address
    exact ⟨_, fun s u => .of_eq rfl, fun base kb nb => My.law_fn T kb nb⟩     -- if «.of_eq rfl» comes too early: refine' ⟨_, ?b, fun base kb nb => My.law_fn T kb nb⟩; exact fun s u => .of_eq rfl
  case S => exact fun w H a ns hl hO hS => ..
  case C => exact ..
(the tactic k_is has no namespace: write k_is) -/
namespace L2
open PySem PySem.Spec PyProof.Rows
def inClass (s : Stmt) (j : Nat) : Stmt := match s with
  | .ClassDef _ _ _ body _ _ _ _ _ _ _ => body.getD j (.Pass ⟨0, 0, 0, 0⟩)
  | _ => .Pass ⟨0, 0, 0, 0⟩
def defArgs (s : Stmt) : Arguments := match s with
  | .FunctionDef _ a _ _ _ _ _ _ _ _ => a
  | _ => { posonlyargs := [], args := [], vararg := none, kwonlyargs := [], kw_defaults := [], kwarg := none, defaults := [] }
def defBody (s : Stmt) : List Stmt := match s with
  | .FunctionDef _ _ b _ _ _ _ _ _ _ => b
  | _ => []
def defScope (s : Stmt) : Scope := match s with
  | .FunctionDef _ _ _ _ _ _ sc _ _ _ => sc
  | _ => { kind := .function, names := [], isGenerator := false, isCoroutine := false }
abbrev CX0 : CXT := fun _ _ _ _ _ _ => False
abbrev E0 : XK := fun _ _ _ => False
theorem pass0 {X : Cx} : Passes CX0 X E0 := fun _ _ _ _ _ _ _ h => h.elim
structure Fun (K : PySem.W.Frag) (x qual : Str) (st : Stmt) (f : Addr) (fd : FuncData) : Prop where
  ex : ∃ (oc : Value) (od : Option Addr) (kV doc pm : Value) (an : Option Addr) (cdv ct : Value) (osl : Array (Option Value)),
    fd = PySem.W.fnOf x qual (defArgs st) (defBody st) (defScope st) .none kV doc pm an cdv ct ∧ K.lookup f = some ⟨oc, od, .func fd, osl⟩ ∧ PySem.W.codeIn K cdv qual = true
  kp : PySem.W.keepIn K (.ref f) = true
section
variable {P : Program} {w : World} {K : PySem.W.Frag} {mg : Str → Option Value} {base : Heap}
theorem Fun.ok {x qual : Str} {st : Stmt} {f : Addr} {fd : FuncData} {N ps : List Str} {k : Nat} {sp : Sp} (F : Fun K x qual st f fd) (S : FnScope N ps (defScope st)) (len : ∀ vs H Q E, sp vs H Q E → vs.length = ps.length)
    (hbody : ∀ (cdv : Value) (A : Around) (outer : List Env) (s : Shared) (H : Hp) (vs : List V) (Q : VK) (E : XK), Room k (A.deeper (envOfC qual (defScope st) s.heap.objs.size f cdv)) → sp vs H Q E →
      ∃ t, PSs (cxOf CX0 P w K mg base N qual (defScope st) f cdv A outer s H E).nox (defBody st) t ∧ t { nx := fun _ H' => Q .non H', rt := Q } (start N vs) H) : FnOk P w K mg base CX0 (k + 1) f fd ps sp := by
  obtain ⟨oc, od, kV, doc, pm, an, cdv, ct, osl, rfl, lk, hcd⟩ := F.ex
  refine fn_of lk hcd S len fun A outer s H vs Q E hr hsp => ?_
  obtain ⟨t, h, q⟩ := hbody cdv A outer s H vs Q E hr hsp
  exact ⟨t, h.nox, q⟩
theorem Fun.binds {x qual : Str} {st : Stmt} {f : Addr} {fd : FuncData} {ps : List Str} (F : Fun K x qual st f fd)
    (h : ∀ (kV doc pm : Value) (an : Option Addr) (cdv ct : Value) (us : List Value), us.length = ps.length → bindArgs (PySem.W.fnOf x qual (defArgs st) (defBody st) (defScope st) .none kV doc pm an cdv ct) ⟨us, []⟩ = pure (ps.zip us)) : Binds K fd ps [] := by
  obtain ⟨oc, od, kV, doc, pm, an, cdv, ct, osl, rfl, lk, hcd⟩ := F.ex
  exact .all (h kV doc pm an cdv ct)
theorem fun_mk {x qual : Str} {st : Stmt} {f : Addr} {oc : Value} {od an : Option Addr} {osl : Array (Option Value)} {kV doc pm cdv ct : Value} (l : K.lookup f = some ⟨oc, od, .func (PySem.W.fnOf x qual (defArgs st) (defBody st) (defScope st) .none kV doc pm an cdv ct), osl⟩)
    (c : PySem.W.codeIn K cdv qual = true) (k : PySem.W.keepIn K (.ref f) = true) : Fun K x qual st f (PySem.W.fnOf x qual (defArgs st) (defBody st) (defScope st) .none kV doc pm an cdv ct) := ⟨⟨oc, od, kV, doc, pm, an, cdv, ct, osl, rfl, l, c⟩, k⟩
end
theorem hu_of {A : Around} {k : Nat} (hr : Room k A) : A.units + 1 < cLine := Nat.lt_of_le_of_lt (Nat.add_le_add_left (by decide : 1 ≤ 64) _) hr.units
theorem small1000 {n : Nat} (h : n ≤ 1000) : n < sizeLine := Nat.lt_of_le_of_lt h (by decide)
section
variable {X : Cx}
theorem pv (i : Nat) {x : Str} {pos : Pos} (hN : X.N[i]? = some x := by rfl) (hv : Vis X.env.scope x := by first | exact Or.inl rfl | exact Or.inr (Or.inl rfl) | exact Or.inr (Or.inr rfl)) (hd : (x == ("__debug__" : Str)) = false := by decide)
    (hcd : (x == ("__classdict__" : Str)) = false := by decide) : PE X (.Name x pos) (tVar i) := pe_var hN hv hd hcd
end
theorem iteF {A B : Prop} (h : B) : if false = true then A else B := by
  rw [if_neg Bool.false_ne_true]
  exact h
theorem iteT {A B : Prop} (h : A) : if true = true then A else B := by
  rw [if_pos rfl]
  exact h
def Same (H H' : Hp) : Prop := ∀ b o, H b = some o → H' b = some o
theorem Same.refl (H : Hp) : Same H H := fun _ _ h => h
theorem Same.trans {H H1 H2 : Hp} (a : Same H H1) (b : Same H1 H2) : Same H H2 := fun c o h => b c o (a c o h)
theorem Same.free {H H' : Hp} (e : Same H H') {l : Addr} (h : H' l = Option.none) : H l = Option.none := by
  cases q : H l with
  | none => rfl
  | some o =>
    rw [e l o q] at h
    cases h
theorem Same.seq {K : PySem.W.Frag} {H H' : Hp} {a : Addr} {xs : List V} (e : Same H H') (h : SqL K H a xs) : SqL K H' a xs := by
  rcases h with (h | ⟨o, h⟩) | h
  · exact .inl (.inl (e _ _ h))
  · exact .inl (.inr ⟨o, e _ _ h⟩)
  · exact .inr h
end L2
namespace L2
open PySem PySem.Spec PyProof.Rows
section
variable {X : Cx}
end
section
variable {κ : Type} [DecidableEq κ]
end
end L2
set_option maxHeartbeats 4000000
namespace Tn
def upto (n : Nat) : List Int := (List.range n).map fun (i : Nat) => (i : Int)
theorem upto_len (n : Nat) : (upto n).length = n := by simp [upto]
theorem mem_upto {n : Nat} {w : Int} : w ∈ upto n ↔ 0 ≤ w ∧ w < n := by
  unfold upto
  simp only [List.mem_map, List.mem_range]
  constructor
  · rintro ⟨i, h, rfl⟩; omega
  · rintro ⟨h1, h2⟩; exact ⟨w.toNat, by omega, by omega⟩
theorem upto_nodup (n : Nat) : (upto n).Nodup := by
  unfold upto
  rw [List.Nodup, List.pairwise_map]
  exact (List.nodup_range (n := n)).imp (fun h e => h (by omega))
theorem upto_get {n i : Nat} (h : i < n) : (upto n)[i]? = some (i : Int) := by
  simp [upto, h]
theorem perm_of_sub : ∀ {l m : List Int}, l.Nodup → (∀ a ∈ l, a ∈ m) → m.length ≤ l.length → l.Perm m
  | [], m, _, _, hl => by
    have : m = [] := List.length_eq_zero_iff.mp (by simpa using hl)
    rw [this]
  | a :: l, m, nd, hs, hl => by
    obtain ⟨h1, h2⟩ := List.nodup_cons.mp nd
    have ha : a ∈ m := hs a List.mem_cons_self
    have pm := List.perm_cons_erase ha
    have ih := perm_of_sub (l := l) (m := m.erase a) h2 (fun b hb => by
      have hne : b ≠ a := fun e => h1 (e ▸ hb)
      exact (List.mem_erase_of_ne hne).mpr (hs b (List.mem_cons_of_mem _ hb))) (by
      have := pm.length_eq
      simp only [List.length_cons] at this hl
      omega)
    exact (ih.cons a).trans pm.symm
structure IsOrd (ns : List Int) : Prop where
  perm : ns.Perm (upto ns.length)
theorem IsOrd.nodup {ns : List Int} (h : IsOrd ns) : ns.Nodup := h.perm.nodup_iff.mpr (upto_nodup _)
theorem IsOrd.mem {ns : List Int} (h : IsOrd ns) {w : Int} : w ∈ ns ↔ 0 ≤ w ∧ w < ns.length := h.perm.mem_iff.trans mem_upto
theorem IsOrd.of_perm {ns : List Int} {n : Nat} (h : ns.Perm (upto n)) : IsOrd ns ∧ ns.length = n := by
  have e : ns.length = n := by rw [h.length_eq, upto_len]
  exact ⟨⟨by rw [e]; exact h⟩, e⟩
theorem IsOrd.rev {ns : List Int} (h : IsOrd ns) : IsOrd ns.reverse := ⟨by
  rw [List.length_reverse]
  exact (List.reverse_perm ns).trans h.perm⟩
def backF (ns : List Int) : List Int := (List.range ns.length).map fun (w : Nat) => (ns.idxOf (w : Int) : Int)
def filled (ns : List Int) (i : Nat) : List Int := (List.range ns.length).map fun (w : Nat) => if ns.idxOf (w : Int) < i then (ns.idxOf (w : Int) : Int) else 0
end Tn
namespace Tn
open PySem
def rvO (tp : Addr) (i : Int) : Obj := { cls := .type "reversed", data := .fields #[.ref tp, rawInt i] }
def IsRv (h : Heap) (a tp : Addr) (i : Int) : Prop := ∃ o, h.get? a = some o ∧ o.cls = .type "reversed" ∧ o.data = .fields #[.ref tp, rawInt i]
theorem IsRv.ty {s : Shared} {a tp : Addr} {i : Int} (x : IsRv s.heap a tp i) : s.TypeIs (.ref a) "reversed" := let ⟨o, ho, hc, _⟩ := x; ⟨o, ho, hc⟩
theorem IsRv.at {h h' : Heap} {a tp : Addr} {i : Int} (x : IsRv h a tp i) (e : ∀ o, h.get? a = some o → h'.get? a = some o) : IsRv h' a tp i := let ⟨o, ho, r⟩ := x; ⟨o, e _ ho, r⟩
section
variable {prog : Program} {w : World} {A : Around} {E : Value → Shared → Prop} {s : Shared}
end
end Tn
namespace Tn
open PySem
end Tn
namespace L2
open PySem PySem.Spec PyProof.Rows
section
variable {X : Cx}
theorem kit_same (K : PySem.W.Frag) (n : String) : PySem.W.kitOne K (.type n) (.type n) = some true := by
  unfold PySem.W.kitOne
  rw [if_pos (by simp)]
theorem kit_int_bool (K : PySem.W.Frag) : PySem.W.kitOne K (.type "int") (.type "bool") = some false := by
  unfold PySem.W.kitOne
  rw [if_neg (by decide +kernel)]
  show (if PySem.W.kitMeta "bool" = true then PySem.W.subIn K (.type "int") (.type "bool") else none) = some false
  rw [if_pos (by decide +kernel)]
  show (fastBuiltinMro "int").map (·.contains (.type "bool")) = some false
  decide +kernel
theorem call_isi : CallR X (.builtin "isinstance") (fun xs H Q => ∃ x t n b, xs = [x, .ty n] ∧ TyOf X.K H x t ∧ PySem.W.kitOne X.K t (.type n) = some b ∧ Q (.bl b) H) := by
  intro pins s σ H xs us Q I r h
  obtain ⟨x, t, n, b, rfl, ty, e, q⟩ := h
  obtain ⟨u, w', rfl, rx, ry⟩ := vals2 r
  obtain rfl : w' = Value.type n := ry
  exact isinst_ok I rx ty e fun tk => ⟨.bl b, H, I.tok _, rfl, q⟩
def eqVs : List V → List V → Bool
  | [], [] => true
  | x :: xs, y :: ys => eqV x y && eqVs xs ys
  | _, _ => false
def rEqT (K : PySem.W.Frag) : R2 := fun x y H Q => ∃ a b xs ys, x = .ref a ∧ y = .ref b ∧ SqT K H a xs ∧ SqT K H b ys ∧ xs.all flatV = true ∧ ys.all flatV = true ∧ Q (.bl (eqVs xs ys)) H
end
end L2
namespace Tn
open PySem PySem.Spec PyProof.Rows
section
variable {prog : Program} {w : World} {A : Around} {E : Value → Shared → Prop} {s : Shared}
theorem nextT_item {it tp : Addr} {k : Nat} {xs : Array Value} {v : Value} {Q : Value → Shared → Prop} (p1 : s.heap.IsTupleIter it tp k) (p2 : s.heap.IsTuple tp xs) (hv : xs[k]? = some v)
    (hQ : ∀ g, g.IsTupleIter it tp (k + 1) → Heap.SameBut it s.heap g → Q v { s with heap := g }) : wpAny (model prog w) A (Builtin.SmallTypes.nextOf (.ref it)) Q E s := by
  obtain ⟨o1, g1, c1, d1⟩ := id p1
  obtain ⟨o2, g2, _, n2, d2⟩ := p2
  unfold Builtin.SmallTypes.nextOf
  refine wpAny_bind (wpAny_callSpecial?_slot (name := Str.ofString "__next__") p1.typeIs F.slot_tuple_iterator_next (wpAny_call_entry F.slot_tuple_iterator_next p1.typeIs F.entry_tuple_iterator_next ?_ (F.args_tuple_iterator_next_1 _)))
  show wpAny _ _ (field (.ref it) 0 >>= _) _ _ _
  refine wpAny_bind (wpAny_field g1 d1 (x := .ref tp) rfl ?_)
  show wpAny _ _ (if (Value.ref tp == Value.none) = true then _ else _) _ _ _
  rw [if_neg (show ¬ ((Value.ref tp == Value.none) = true) from Bool.false_ne_true)]
  show wpAny _ _ (field (.ref it) 1 >>= _) _ _ _
  refine wpAny_bind (wpAny_field g1 d1 (x := .int k 0) rfl ?_)
  show wpAny _ _ (seqItems? (.ref tp) >>= _) _ _ _
  refine wpAny_bind (wpAny_seqItems g2 d2 ?_)
  simp only [Int.toNat_natCast, hv]
  refine wpAny_bind (wpAny_setField g1 d1 (by simp) (wpAny_pure ⟨v, rfl, wpAny_pure (hQ _ ?_ (Heap.SameBut.update ..))⟩))
  exact ⟨_, Heap.get?_update_self _ g1 (Obj.isFreed_of_fields (Obj.data_mapFields d1 _)), (Obj.cls_mapFields ..).trans c1, by
      rw [Obj.data_mapFields d1]; simp [rawInt]⟩
theorem nextT_end {it tp : Addr} {k : Nat} {xs : Array Value} {Q : Value → Shared → Prop} (hh : A.handled = none) (p1 : s.heap.IsTupleIter it tp k) (p2 : s.heap.IsTuple tp xs) (hv : xs[k]? = none)
    (hE : ∀ g e, Heap.ExtBut it s.heap g → (∃ o, g.get? e = some o ∧ o.cls = .type "StopIteration") → E (.ref e) { s with heap := g }) : wpAny (model prog w) A (Builtin.SmallTypes.nextOf (.ref it)) Q E s := by
  obtain ⟨o1, g1, c1, d1⟩ := id p1
  obtain ⟨o2, g2, _, n2, d2⟩ := p2
  unfold Builtin.SmallTypes.nextOf
  refine wpAny_bind (wpAny_callSpecial?_slot (name := Str.ofString "__next__") p1.typeIs F.slot_tuple_iterator_next (wpAny_call_entry F.slot_tuple_iterator_next p1.typeIs F.entry_tuple_iterator_next ?_ (F.args_tuple_iterator_next_1 _)))
  show wpAny _ _ (field (.ref it) 0 >>= _) _ _ _
  refine wpAny_bind (wpAny_field g1 d1 (x := .ref tp) rfl ?_)
  show wpAny _ _ (if (Value.ref tp == Value.none) = true then _ else _) _ _ _
  rw [if_neg (show ¬ ((Value.ref tp == Value.none) = true) from Bool.false_ne_true)]
  show wpAny _ _ (field (.ref it) 1 >>= _) _ _ _
  refine wpAny_bind (wpAny_field g1 d1 (x := .int k 0) rfl ?_)
  show wpAny _ _ (seqItems? (.ref tp) >>= _) _ _ _
  refine wpAny_bind (wpAny_seqItems g2 d2 ?_)
  simp only [Int.toNat_natCast, hv]
  refine wpAny_bind (wpAny_rule (wpAny_bind (wpAny_setField g1 d1 (by simp) ?_)))
  show wpAny _ _ (newExc (.type "StopIteration") [] >>= _) _ _ (_ : Shared)
  refine wpAny_bind ?_; simp only [newExc, newTuple]
  refine wpAny_bind (wpAny_newObj_type ?_ (by size_fits)); refine wpAny_bind (m := firstArgMember _ _) (wpAny_of_eq (a := Value.none) (by first | rfl | (simp only [firstArgMember]; rfl)) ?_)
  refine wpAny_newObj_type ?_ (by size_fits); simp only [raiseNew]
  refine wpAny_bind (wpAny_handled ?_); first | rw [show A.in1.handled = none from hh] | rw [hh]
  refine wpAny_bind (wpAny_pure (wpAny_throw ?_)); exact hE _ _ (((Heap.SameBut.update ..).extBut.push _).push _) ⟨_, Heap.get?_push_size _ rfl, rfl⟩
end
theorem tupIter_at {g g' : Heap} {it tp : Addr} {k : Nat} (p : g.IsTupleIter it tp k) (e : ∀ o, g.get? it = some o → g'.get? it = some o) : g'.IsTupleIter it tp k := let ⟨o, ho, r⟩ := p; ⟨o, e _ ho, r⟩
theorem tup_at {g g' : Heap} {tp : Addr} {xs : Array Value} (p : g.IsTuple tp xs) (e : ∀ o, g.get? tp = some o → g'.get? tp = some o) : g'.IsTuple tp xs := let ⟨o, ho, r⟩ := p; ⟨o, e _ ho, r⟩
end Tn
namespace L2
open PySem PySem.Spec PyProof.Rows
def Ite (K : PySem.W.Frag) (a : Addr) : It :=
  ⟨fun i H => ∃ xs x, SqT K H a xs ∧ xs[i]? = some x, fun i H x H' => ∃ p y, H p = none ∧ x = .ref p ∧ (∀ xs, SqT K H a xs → xs[i]? = some y) ∧ H' = upd H p (.tup [.int i, y]), fun i H => ∃ xs, SqT K H a xs ∧ xs.length = i⟩
section
variable {X : Cx}
def iEnum (K : PySem.W.Frag) (ta : TA) : TI := fun σ H R => ta σ H fun vs H1 => ∃ a, vs = [.ref a] ∧ (∃ xs, SqT K H1 a xs) ∧ R (Ite K a) H1
end
end L2
namespace L2
open PySem PySem.Spec PyProof.Rows
def cSt (σ : St) (js : List Nat) : St := none :: js.map fun j => (σ[j]?).getD none
def cxC (X : Cx) (scope : Scope) (cl : List (Str × Addr)) (C : Addr) (N : List Str) (fp : List Addr) (s : Shared) (H : Hp) : Cx where
  prog := X.prog
  w := X.w
  K := X.K
  mg := X.mg
  base := X.base
  A := X.A
  N := N
  s₀ := s
  H₀ := H
  env := compEnvC scope cl C X.env
  outer := X.stack
  stack := X.stack
  ex := fp
  fn := fun _ => false
  calm := X.calm
  pn := []
  xe := fun _ _ => False
theorem closure_go {env : Env} : ∀ (l : List (Str × NameKind)) (cs : List (Str × Addr)), (∀ y ∈ l, y.2 = .free → ∃ c, env.cells.lookup y.1 = some c) → (∀ y c, cs.lookup y = some c → env.cells.lookup y = some c) →
    ∃ cl, (forIn l cs fun x r => do
        let (name, kind) := x
        let mut cs := r
        if kind == .free then cs := (name, ← cellOf env name) :: cs
        pure (ForInStep.yield cs) : Sem (List (Str × Addr))) = pure cl ∧ (∀ y c, cl.lookup y = some c → env.cells.lookup y = some c) ∧ (∀ y ∈ l, y.2 = .free → ∃ c, cl.lookup y.1 = some c) ∧ (∀ y c, cs.lookup y = some c → ∃ d, cl.lookup y = some d)
  | [], cs, _, h2 => ⟨cs, rfl, h2, (fun _ h => nomatch h), fun y c e => ⟨c, e⟩⟩
  | (n, k) :: r, cs, h1, h2 => by
    rw [List.forIn_cons]
    by_cases hk : k = .free
    · subst hk
      obtain ⟨c, hc⟩ := h1 (n, .free) List.mem_cons_self rfl
      have hc' : cellOf env n = pure c := by unfold cellOf; rw [show env.cells.lookup n = some c from hc]
      obtain ⟨cl, e, p1, p2, p3⟩ := closure_go r ((n, c) :: cs) (fun y hy => h1 y (List.mem_cons_of_mem _ hy)) (fun y d hd => by
        rw [List.lookup_cons] at hd
        split at hd
        · rename_i hb
          have : y = n := by simpa using hb
          cases hd
          rw [this]; exact hc
        · exact h2 y d hd)
      refine ⟨cl, ?_, p1, fun y hy hf => ?_, fun y d hd => ?_⟩
      · simp only [beq_self_eq_true, if_true, hc', pure_bind]
        exact e
      · rcases List.mem_cons.mp hy with rfl | hy
        · exact p3 n c (by simp)
        · exact p2 y hy hf
      · by_cases hyn : y = n
        · subst hyn; exact p3 y c (by simp)
        · exact p3 y d (by rw [List.lookup_cons, show (y == n) = false by simpa using hyn]; exact hd)
    · have hb : (k == NameKind.free) = false := by simpa using hk
      obtain ⟨cl, e, p1, p2, p3⟩ := closure_go r cs (fun y hy => h1 y (List.mem_cons_of_mem _ hy)) h2
      refine ⟨cl, ?_, p1, fun y hy hf => ?_, p3⟩
      · simp only [hb, Bool.false_eq_true, if_false, pure_bind]
        exact e
      · rcases List.mem_cons.mp hy with rfl | hy
        · exact absurd hf hk
        · exact p2 y hy hf
theorem closure_of {env : Env} {scope : Scope} (h : ∀ y ∈ scope.names, y.2 = .free → ∃ c, env.cells.lookup y.1 = some c) :
    ∃ cl, closureFor scope env = pure cl ∧ (∀ y c, cl.lookup y = some c → env.cells.lookup y = some c) ∧ ∀ y ∈ scope.names, y.2 = .free → ∃ c, cl.lookup y.1 = some c := by
  obtain ⟨cl, e, p1, p2, _⟩ := closure_go scope.names [] h (fun _ _ q => by simp at q)
  refine ⟨cl, ?_, p1, p2⟩
  unfold closureFor
  have e' := congrArg (fun (t : Sem (List (Str × Addr))) => t >>= fun cs => pure cs) e
  simp only [pure_bind, bind_pure] at e' ⊢
  first | exact e' | simpa using e'
structure CScope (S scope : Scope) (x : Str) (N : List Str) (P : List Str) (js : List Nat) : Prop where
  kind : scope.kind = .function
  nocell : ∀ y ∈ scope.names, y.2 ≠ .cell
  loc : ∀ y ∈ scope.names, y.2 = .local → scope.names.lookup y.1 = some .local
  free : ∀ y ∈ scope.names, y.2 = .free → S.names.lookup y.1 = some .cell ∨ S.names.lookup y.1 = some .free
  own : scope.names.lookup x = some .local
  nd : N.Nodup
  hd : N = x :: (js.map fun j => (P[j]?).getD x)
  fr : ∀ j ∈ js, ∃ y, P[j]? = some y ∧ scope.names.lookup y = some .free
end L2
namespace L2
open PySem PySem.Spec PyProof.Rows
def relF (env : Env) (p : Str × NameKind) : Str × NameKind := if (p.2 == .free && env.scope.kind == .function && env.kindOf p.1 == some .cell) then (p.1, .cell) else (p.1, p.2)
theorem relF_fst (env : Env) (p : Str × NameKind) : (relF env p).1 = p.1 := by
  unfold relF; split <;> rfl
theorem relF_snd (env : Env) (p : Str × NameKind) : (relF env p).2 = p.2 ∨ (p.2 = .free ∧ (relF env p).2 = .cell) := by
  unfold relF
  split
  · rename_i h
    refine .inr ⟨?_, rfl⟩
    have h' : (p.2 == NameKind.free) = true := by
      cases e : (p.2 == NameKind.free) with
      | true => rfl
      | false => rw [e] at h; simp at h
    simpa using h'
  · exact .inl rfl
theorem look_rel {env : Env} : ∀ {names : List (Str × NameKind)} {x : Str} {k : NameKind}, (names.map (relF env)).lookup x = some k → ∃ k0, names.lookup x = some k0 ∧ (k = k0 ∨ (k0 = .free ∧ k = .cell))
  | [], _, _, h => by simp at h
  | p :: r, x, k, h => by
    rw [List.map_cons, show relF env p = ((relF env p).1, (relF env p).2) from rfl, List.lookup_cons, relF_fst] at h
    rw [show p = (p.1, p.2) from rfl, List.lookup_cons]
    split at h
    · refine ⟨p.2, rfl, ?_⟩
      have e : (relF env p).2 = k := Option.some.inj h
      rcases relF_snd env p with z | z
      · exact .inl (e.symm.trans z)
      · exact .inr ⟨z.1, e.symm.trans z.2⟩
    · exact look_rel h
theorem look_unrel {env : Env} : ∀ {names : List (Str × NameKind)} {x : Str} {k0 : NameKind}, names.lookup x = some k0 → ∃ k, (names.map (relF env)).lookup x = some k ∧ (k = k0 ∨ (k0 = .free ∧ k = .cell))
  | [], _, _, h => by simp at h
  | p :: r, x, k0, h => by
    rw [show p = (p.1, p.2) from rfl, List.lookup_cons] at h
    rw [List.map_cons, show relF env p = ((relF env p).1, (relF env p).2) from rfl, List.lookup_cons, relF_fst]
    split at h
    · have e : p.2 = k0 := Option.some.inj h
      refine ⟨_, rfl, ?_⟩
      rcases relF_snd env p with z | z
      · exact .inl (z.trans e)
      · exact .inr ⟨e.symm.trans z.1, z.2⟩
    · exact look_unrel h
section
variable {X : Cx} {pins : List (Addr × Obj)} {σ : St} {H : Hp} {s : Shared} {scope S : Scope} {cl : List (Str × Addr)} {C : Addr} {N : List Str} {fp : List Addr} {x : Str} {js : List Nat}
theorem cxC_ok (I : Inv X pins σ H s) (Sc : CScope S scope x N X.N js) (hC : s.heap.objs.size ≤ C) (h1 : ∀ y c, cl.lookup y = some c → X.env.cells.lookup y = some c)
    (h2 : ∀ y ∈ scope.names, y.2 = .free → ∃ c, cl.lookup y.1 = some c) (hfp : ∀ b ∈ fp, FpOk X pins H b) (hlt : ∀ b ∈ fp, b < s.heap.objs.size) : (cxC X scope cl C N fp s H).Ok where
  mod := I.ok.mod
  kind := Sc.kind
  glob := I.ok.glob
  blt := I.ok.blt
  above := hC
  inj := fun y z c e1 e2 => I.ok.inj y z c (h1 _ _ e1) (h1 _ _ e2)
  has := fun y hy => by
    have go : ∀ k, (scope.names.map (relF X.env)).lookup y = some k → (k = .cell ∨ k = .free) → ∃ c, cl.lookup y = some c := fun k e hk => by
      obtain ⟨k0, e0, hh⟩ := look_rel e
      have m := PySem.mem_of_lookup e0
      have hf : k0 = .free := by
        rcases hh with z | z
        · rcases hk with q | q
          · exact absurd (z.symm.trans q) (Sc.nocell _ m)
          · exact z.symm.trans q
        · exact z.1
      exact h2 (y, k0) m hf
    rcases hy with e | e
    · exact go _ e (.inl rfl)
    · exact go _ e (.inr rfl)
  cab := fun _ _ h => nomatch h
  hd := I.ok.hd
  frames := I.ok.frames
  stk := .inl rfl
  exf := fun b hb => ⟨Nat.ne_of_lt (Nat.lt_of_lt_of_le (hlt b hb) hC), fun y c e => (hfp b hb).2.2.2.2.1 y c (h1 _ _ e)⟩
  bs := fun b o e => I.bs b o e
  bsz := Nat.le_trans I.ok.bsz I.sz
  noex := fun b o e hb => by
    rcases (hfp b hb).2.2.2.1 with z | z
    · exact I.ok.noex b o e z
    · exact absurd (Nat.lt_of_lt_of_le (Heap.lt_size e) (Nat.le_trans I.ok.bsz z)) (Nat.lt_irrefl _)
  exfs := fun b hb hs => by
    rcases List.mem_cons.mp (I.stkSub b hs) with z | z
    · exact (hfp b hb).2.1 z
    · exact (hfp b hb).2.2.1 z
  funs := I.stack
  frf := I.stkFree
theorem cxC_inv (I : Inv X pins σ H s) (hS : X.env.scope = S) (Sc : CScope S scope x N X.N js) (hC : s.heap.objs.size ≤ C) (h1 : ∀ y c, cl.lookup y = some c → X.env.cells.lookup y = some c)
    (h2 : ∀ y ∈ scope.names, y.2 = .free → ∃ c, cl.lookup y.1 = some c) (hfp : ∀ b ∈ fp, FpOk X pins H b) (hlt : ∀ b ∈ fp, b < s.heap.objs.size)
    {h4 : Heap} {tk : Nat} {m : Str → Option Value} (hns : h4.Ns C m) (hk : ∀ b o, s.heap.get? b = some o → h4.get? b = some o) :
    Inv (cxC X scope cl C N fp s H) [] (cSt σ js) H { s with heap := h4, toks := tk } := by
  refine ⟨cxC_ok I Sc hC h1 h2 hfp hlt, rfl, I.bare, Un.kept hk, ⟨m, hns, fun i y v hi hv hvis => ?_⟩, fun y c e => ?_, I.hok.fresh hC, fun y c e => I.freeC y c (h1 _ _ e), fun p hp => absurd (show p ∈ ([] : List (Addr × Obj)) from hp) (by simp), I.hok.kept hk, ?_⟩
  · cases i with
    | zero => exact absurd (show some (none : Option V) = some (some v) from hv) (by simp)
    | succ i =>
      have hi : N[i + 1]? = some y := hi
      rw [Sc.hd, List.getElem?_cons_succ, List.getElem?_map] at hi
      have hv : (js.map fun j => (σ[j]?).getD none)[i]? = some (some v) := hv
      rw [List.getElem?_map] at hv
      cases ej : js[i]? with
      | none => rw [ej] at hv; cases hv
      | some j =>
        rw [ej] at hi hv
        have hv : (σ[j]?).getD none = some v := Option.some.inj hv
        have hi : (X.N[j]?).getD x = y := Option.some.inj hi
        obtain ⟨y', ey, hfr⟩ := Sc.fr j (List.mem_of_getElem? ej)
        rw [ey] at hi
        have hi : y' = y := hi
        subst hi
        have hσ : σ[j]? = some (some v) := by
          cases e : σ[j]? with
          | none => rw [e] at hv; cases hv
          | some o => rw [e] at hv; exact congrArg some hv
        have kX := Sc.free _ (PySem.mem_of_lookup hfr) rfl
        rw [← hS] at kX
        obtain ⟨mX, hnX, hl⟩ := I.loc
        obtain ⟨u, r, L⟩ := hl j y' v ey hσ (.inr kX)
        refine ⟨u, r, ?_⟩
        rcases L with ⟨kl, _⟩ | ⟨_, c, ec, z⟩
        · have kl : X.env.scope.names.lookup y' = some .local := kl
          rcases kX with q | q
          · rw [q] at kl; cases kl
          · rw [q] at kl; cases kl
        · obtain ⟨c', ec'⟩ := h2 _ (PySem.mem_of_lookup hfr) rfl
          have ecc : c' = c := Option.some.inj ((h1 _ _ ec').symm.trans ec)
          subst ecc
          obtain ⟨o, ho, hd⟩ := z
          refine .inr ⟨?_, c', ec', o, hk _ _ ho, hd⟩
          obtain ⟨k, e, hh⟩ := look_unrel (env := X.env) hfr
          rcases hh with q | q
          · exact .inr (show (scope.names.map (relF X.env)).lookup y' = some .free from q ▸ e)
          · exact .inl (show (scope.names.map (relF X.env)).lookup y' = some .cell from q.2 ▸ e)
  · obtain ⟨v, o, ho, hd⟩ := I.cell y c (h1 _ _ e)
    exact ⟨v, o, hk _ _ ho, hd⟩
  · show (cSt σ js).length = N.length
    rw [Sc.hd]
    simp [cSt]
def PTs (X : Cx) (ifs : List Expr) (t : TT) : Prop :=
  ∀ (pins : List (Addr × Obj)) (s : Shared) (σ : St) (H : Hp) (Q : Bool → Hp → Prop), Inv X pins σ H s → t σ H Q →
    wpAny (model X.prog X.w) X.A (forIn ifs true fun c r => if r = true then do let ok ← isTrue c X.env (eval c X.env); pure (ForInStep.yield ok) else pure (ForInStep.yield r)) (TP X pins σ Q) X.xe s
def tYes : TT := fun _ H Q => Q true H
theorem pts_nil : PTs X [] tYes := fun _ _ _ H _ I h => wpAny_tests_nil ⟨H, I, h⟩
theorem pts_one {c : Expr} {t : TT} (h : PT X c t) : PTs X [c] t := fun pins s σ H Q I hw => wpAny_tests_one (h pins s σ H Q I hw)
def CompW (J : It) (g : TG) (tc : TT) (te : TE) (js : List Nat) (σ : St) (H1 : Hp) (Q : VK) (D : Addr) : Prop :=
  ∃ W : Nat → Nat → List V → St → Hp → Prop, (∃ m, W 0 m [] (cSt σ js) (upd H1 D (.lst []))) ∧ ∀ i m acc σ' H', W i m acc σ' H' → H' D = some (.lst acc) ∧
    ((J.stop i H' ∧ Q (.ref D) H') ∨ (J.go i H' ∧ acc.length < sizeLine ∧ ∀ y H2, J.yld i H' y H2 → g y σ' H2 fun σ3 H3 => tc σ3 H3 fun b H4 =>
      if b = true then te σ3 H4 fun z H5 => H5 D = some (.lst acc) ∧ ∃ m', m' < m ∧ W (i + 1) m' (acc ++ [z]) σ3 (upd H5 D (.lst (acc ++ [z])))
      else ∃ m', m' < m ∧ W (i + 1) m' acc σ3 H4))
def tComp (wi : TI) (g : TG) (tc : TT) (te : TE) (js : List Nat) : TE := fun σ H Q => wi σ H fun J H1 => ∀ D, H1 D = none → CompW J g tc te js σ H1 Q D
theorem compLoop_go {prog : Program} {w : World} {A : Around} {R : Result → Shared → Prop} {s : Shared} {elt target iter : Expr} {ifs : List Expr} {pos : Pos} {it acc : Value} {env : Env} (I : Nat → Shared → Prop)
    (turn : ∀ n s, I n s → wpAny (model prog w) A (pyNext it) (fun r s₁ => match r with
      | none => R (.ok .next) s₁
      | some v => wpAny (model prog w) A (letOwnedTupleGo target it v) (fun _ s₂ => wpAny (model prog w) A (assign target env v) (fun _ s₂ =>
          wpAny (model prog w) A (forIn ifs true fun c r => if r = true then do let ok ← isTrue c env (eval c env); pure (ForInStep.yield ok) else pure (ForInStep.yield r)) (fun ok s₃ =>
            if ok = true then wpAny (model prog w) A (eval elt env) (fun x s₄ =>
              wpAny (model prog w) A (call (.builtin "list.append") [acc, x]) (fun _ s₅ => ∃ m, m < n ∧ I m s₅) (fun _ _ => False) s₄) (fun _ _ => False) s₃
            else ∃ m, m < n ∧ I m s₃) (fun _ _ => False) s₂) (fun _ _ => False) s₂) (fun _ _ => False) s₁) (fun _ _ => False) s)
    (n : Nat) (h : I n s) :
    codeAny (model prog w) A (.compLoop (.ListComp elt [⟨target, iter, ifs, 0⟩] scope pos) 0 it acc env) R s := by
  refine codeAny_loop rfl I (fun n s hI => ?_) n h
  show wpAny _ A ((compTurn (.ListComp elt [⟨target, iter, ifs, 0⟩] scope pos) 0 it acc env).onRaise (fun x => do noteFrame x env; theTreesLotGoes x)) _ _ s
  refine wpAny_noted ?_
  rw [compTurn_list]
  refine wpAny_bind (wpAny_standAt (wpAny_bind (wpAny_mono (turn n s hI) (fun r s₁ h₁ => ?_) fun _ _ h' => h'.elim)))
  cases r with
  | none => exact wpAny_pure h₁
  | some v =>
    refine wpAny_bind (wpAny_mono h₁ (fun _ s₁' h₁' => ?_) fun _ _ h' => h'.elim)
    refine wpAny_bind (wpAny_mono h₁' (fun _ s₂ h₂ => wpAny_bind (wpAny_mono h₂ (fun ok s₃ h₃ => ?_) fun _ _ h' => h'.elim)) fun _ _ h' => h'.elim)
    cases ok with
    | false => exact wpAny_pure ⟨rfl, h₃⟩
    | true =>
      exact wpAny_bind (wpAny_bind (wpAny_mono h₃ (fun x s₄ h₄ => wpAny_bind (wpAny_mono h₄ (fun _ s₅ h₅ => wpAny_pure (wpAny_pure ⟨rfl, h₅⟩)) fun _ _ h' => h'.elim)) fun _ _ h' => h'.elim))
theorem comp_block {E : Value → Shared → Prop} {elt iter tg : Expr} {ifs : List Expr} {pos : Pos} {J : It} {tn : Nat → Heap → Prop} {it : Addr} {g : TG} {tc : TT} {te : TE} {Q : VK} {RR : Value → Addr → Result → Shared → Prop}
    (hc : X.calm = true) (I2 : Inv X pins σ H s) (hS : X.env.scope = S) (Sc : CScope S scope x N X.N js) (h1 : ∀ y c, cl.lookup y = some c → X.env.cells.lookup y = some c)
    (h2 : ∀ y ∈ scope.names, y.2 = .free → ∃ c, cl.lookup y.1 = some c) (T : Turn X.prog X.w X.K tg J fp it tn) (st2 : tn 0 s.heap) (f2 : ∀ b ∈ fp, FpOk X pins H b)
    (hg : ∀ cl C fp s H, PG (cxC X scope cl C N fp s H) tg g) (ht : ∀ cl C fp s H, PTs (cxC X scope cl C N fp s H) ifs tc) (he : ∀ cl C fp s H, PE (cxC X scope cl C N fp s H) elt te)
    (q : ∀ D, H D = none → CompW J g tc te js σ H Q D)
    (hRR : ∀ D C H' s', Inv X pins σ H' s' → FpOk X pins H' C → (∃ m, s'.heap.Ns C m) → Q (.ref D) H' → RR (.ref D) C (.ok .next) s') :
    wpAny (model X.prog X.w) X.A (newList []) (fun acc s₃ => wpAny (model X.prog X.w) X.A (newFunctionEnv scope X.env.globals cl [] X.env.qual none .none (some X.env)) (fun cenv s₄ =>
      codeAny (model X.prog X.w) X.A (.compStart (.ListComp elt [⟨tg, iter, ifs, 0⟩] scope pos) 0 (.ref it) acc { cenv with scope := relabel scope X.env }) (RR acc cenv.locals) s₄) E s₃) E s := by
  refine wpAny_newObj_type (wpAny_newFunctionEnv Sc.nocell (by intro y hy; simp at hy) (fun h₁ hns₁ hsb₁ => ?_) Sc.kind)
  dsimp only at hns₁ hsb₁ ⊢
  have I3 : Inv X pins σ (upd H s.heap.objs.size (.lst [])) { s with heap := s.heap.push { cls := .type "list", dict := none, data := .seq ([] : List Value).toArray } } := I2.lnew (its := []) (t' := s.toks) .nil (Nat.zero_le _)
  have hD0 : H s.heap.objs.size = none := I2.hok.fresh (Nat.le_refl _)
  obtain ⟨W, ⟨m0, w0⟩, turn⟩ := q s.heap.objs.size hD0
  generalize hHP : s.heap.push { cls := .type "list", dict := none, data := .seq ([] : List Value).toArray } = HP at hns₁ hsb₁ I3 ⊢
  have hsz : HP.objs.size = s.heap.objs.size + 1 := by rw [← hHP, Heap.size_push]
  have kp : ∀ b o, HP.get? b = some o → h₁.get? b = some o := fun b o e => hsb₁.extBut b o (Nat.ne_of_lt (Heap.lt_size e)) (Heap.get?_push_of_some _ e)
  have lt2 : ∀ b ∈ fp, b < s.heap.objs.size := fun b hb => by
    obtain ⟨o, e, _⟩ := T.obj 0 _ st2 b hb
    exact Heap.lt_size e
  have f3 : ∀ b ∈ fp, FpOk X pins (upd H s.heap.objs.size (.lst [])) b := fun b hb => ⟨by rw [upd_ne (Nat.ne_of_lt (lt2 b hb))]; exact (f2 b hb).1, (f2 b hb).2⟩
  have lt3 : ∀ b ∈ fp, b < HP.objs.size := fun b hb => by rw [hsz]; exact Nat.lt_succ_of_lt (lt2 b hb)
  have IB : Inv (cxC X scope cl HP.objs.size N fp { s with heap := HP } (upd H s.heap.objs.size (.lst []))) [] (cSt σ js) (upd H s.heap.objs.size (.lst [])) { s with heap := h₁, toks := s.toks + ([] : List (Str × Value)).length } :=
    cxC_inv (s := { s with heap := HP }) I3 hS Sc (Nat.le_refl _) h1 h2 f3 lt3 hns₁ kp
  have st1 : tn 0 h₁ := T.keep 0 _ _ st2 fun b _ o e => kp b o (by rw [← hHP]; exact Heap.get?_push_of_some _ e)
  have loop : codeAny (model X.prog X.w) X.A (.compLoop (.ListComp elt [⟨tg, iter, ifs, 0⟩] scope pos) 0 (.ref it) (.ref s.heap.objs.size) (compEnvC scope cl HP.objs.size X.env))
      (RR (.ref s.heap.objs.size) HP.objs.size) { s with heap := h₁, toks := s.toks + ([] : List (Str × Value)).length } := by
    have stat : ∀ {H' : Hp}, (∀ b ∈ fp, H' b = none) → ∀ b ∈ fp, FpOk (cxC X scope cl HP.objs.size N fp { s with heap := HP } (upd H s.heap.objs.size (.lst []))) [] H' b := fun {H'} hn b hb =>
      ⟨hn b hb, Nat.ne_of_lt (lt3 b hb), fun hs => by
        rcases List.mem_cons.mp (I3.stkSub b hs) with z | z
        · exact (f3 b hb).2.1 z
        · exact (f3 b hb).2.2.1 z, .inl hb, fun y c e => (f3 b hb).2.2.2.2.1 y c (h1 _ _ e), fun p hp => absurd (show p ∈ ([] : List (Addr × Obj)) from hp) (by simp)⟩
    refine compLoop_go (fun n s' => ∃ i acc σ' H', Inv (cxC X scope cl HP.objs.size N fp { s with heap := HP } (upd H s.heap.objs.size (.lst []))) [] σ' H' s' ∧ tn i s'.heap ∧ (∀ b ∈ fp, H' b = none) ∧ W i n acc σ' H') ?_ m0
      ⟨0, [], _, _, IB, st1, fun b hb => (f3 b hb).1, w0⟩
    rintro n s5 ⟨i, acc, σ5, H5, I5, st5, fr5, w5⟩
    obtain ⟨hD, alt⟩ := turn i n acc σ5 H5 w5
    rcases alt with ⟨stop, qn⟩ | ⟨go, hz, step⟩
    · refine thn (T.done (cxC X scope cl HP.objs.size N fp { s with heap := HP } (upd H s.heap.objs.size (.lst []))) rfl rfl rfl hc i [] s5 σ5 H5 _ I5 (stat fr5) st5 stop) fun r s6 ⟨hr, I6⟩ => ?_
      subst hr
      have hfin : Inv X pins σ H5 s6 := I3.call' (ch := fp) I6.os I6.base I6.hok I6.bare fun b hb => ⟨(f3 b hb).2.2.2.1, (f3 b hb).2.1, (f3 b hb).2.2.2.2.1, (f3 b hb).2.2.2.2.2⟩
      obtain ⟨m, hm, _⟩ := I6.loc
      exact hRR _ _ H5 s6 hfin (I3.fpOk (Nat.le_refl _) I6.free) ⟨m, hm⟩ qn
    · refine thn (T.item (cxC X scope cl HP.objs.size N fp { s with heap := HP } (upd H s.heap.objs.size (.lst []))) rfl rfl rfl hc i [] s5 σ5 H5 _ I5 (stat fr5) st5 go) fun r s6 ⟨u, hr, h6⟩ => ?_
      subst hr
      refine thn h6 fun _ s7 ⟨y, H7, I7, r7, y7, st7, fr7⟩ => ?_
      have I7' := I7.pinned (stat fr7) (T.obj _ _ st7)
      refine thn (hg _ _ _ _ _ _ s7 σ5 H7 y u _ I7' r7 (step y H7 y7)) fun _ s8 ⟨σ8, H8, I8, q8⟩ => ?_
      have keepIt : ∀ {σ' : St} {H' : Hp} {s' : Shared}, Inv (cxC X scope cl HP.objs.size N fp { s with heap := HP } (upd H s.heap.objs.size (.lst []))) ([] ++ pinsAt fp s7.heap) σ' H' s' → tn (i + 1) s'.heap ∧ ∀ b ∈ fp, H' b = none := fun {σ' H' s'} J' =>
        ⟨T.keep _ _ _ st7 fun b hb o e => (J'.pin (b, o) (List.mem_append_right _ (List.mem_append_right _ (mem_pinsAt hb e)))).1, fun b hb => by
          obtain ⟨o, e, _⟩ := T.obj _ _ st7 b hb
          exact (J'.pin (b, o) (List.mem_append_right _ (List.mem_append_right _ (mem_pinsAt hb e)))).2.1⟩
      refine thn (ht _ _ _ _ _ _ s8 σ8 H8 _ I8 q8) fun ok s9 ⟨H9, I9, q9⟩ => ?_
      cases ok with
      | false =>
        obtain ⟨m', hm, w9⟩ := q9
        obtain ⟨t9, n9⟩ := keepIt I9
        exact ⟨m', hm, i + 1, acc, σ8, H9, I9.unpinned, t9, n9, w9⟩
      | true =>
        refine thn (he _ _ _ _ _ _ s9 σ8 H9 _ I9 q9) fun v s10 ⟨z, H10, I10, r10, hD10, m', hm, w10⟩ => ?_
        refine thn (mt_append _ s10 σ8 H10 (.ref s.heap.objs.size) [z] (.ref s.heap.objs.size) [v] (fun _ H11 => ∃ m', m' < n ∧ W (i + 1) m' (acc ++ [z]) σ8 H11) I10 rfl (.cons r10 .nil) ⟨_, acc, z, rfl, rfl, hD10, hz, m', hm, w10⟩) fun _ s11 ⟨_, H11, I11, _, m2, hm2, w11⟩ => ?_
        obtain ⟨t11, n11⟩ := keepIt I11
        exact ⟨m2, hm2, i + 1, acc ++ [z], σ8, H11, I11.unpinned, t11, n11, w11⟩
  exact codeAny_compStart_list loop (T.self _ 0 _ _ _ st1 loop)
variable {elt iter tg : Expr} {ifs : List Expr} {pos : Pos} {wi : TI} {g : TG} {tc : TT} {te : TE}
theorem pe_comp (hS : X.env.scope = S) (Sc : CScope S scope x N X.N js) (hc : X.calm = true) (hi : PI X tg iter wi)
    (hg : ∀ cl C fp s H, PG (cxC X scope cl C N fp s H) tg g) (ht : ∀ cl C fp s H, PTs (cxC X scope cl C N fp s H) ifs tc) (he : ∀ cl C fp s H, PE (cxC X scope cl C N fp s H) elt te)
    (hs : ∀ x, foldedSetIterable iter X.env x = pure x := by intro _; rfl) : PE X (.ListComp elt [⟨tg, iter, ifs, 0⟩] scope pos) (tComp wi g tc te js) := by
  intro pins s σ H Q I h
  obtain ⟨cl, hcl, h1, h2⟩ := closure_of (scope := scope) (env := X.env) fun y hy hf => I.ok.has y.1 (by have := Sc.free y hy hf; rw [← hS] at this; exact this)
  rw [eval_ListComp]
  refine wpAny_comprehension_free (use := none) rfl hs hcl Sc.kind Sc.loc (thn (hi pins s σ H _ I h) fun xv s1 h1' => thn h1' fun itv s2 h2' => ?_)
  obtain ⟨it, fp, tn, J, H2, rfl, I2, T, st2, f2, q⟩ := h2'
  refine comp_block (RR := fun acc C => compPost (model X.prog X.w) X.A X.xe none (EP X pins σ Q) acc C) hc I2 hS Sc h1 h2 T st2 f2 hg ht he q ?_
  rintro D C H' s' I' f' ⟨m, hm⟩ qD
  exact ⟨m, hm, fun h' hs' => ⟨.ref D, H', I'.turned (t' := s'.toks) (fun b o hb e => (hs'.2 b hb).trans e) f'.1 f'.2.1 f'.2.2.2.1 f'.2.2.2.2.1 f'.2.2.2.2.2, rfl, qD⟩⟩
theorem ps_setComp {i : Nat} {y : Str} {py spos : Pos} (hN : X.N.Nodup) (hiy : X.N[i]? = some y) (hx : Loc X.env.scope y) (hS : X.env.scope = S) (Sc : CScope S scope x N X.N js) (hc : X.calm = true) (hi : PI X tg iter wi)
    (hg : ∀ cl C fp s H, PG (cxC X scope cl C N fp s H) tg g) (ht : ∀ cl C fp s H, PTs (cxC X scope cl C N fp s H) ifs tc) (he : ∀ cl C fp s H, PE (cxC X scope cl C N fp s H) elt te)
    (hsw : swapsWith (.ListComp elt [⟨tg, iter, ifs, 0⟩] scope pos) (some (.Name y py)) spos.line X.env = pure true) (hf : X.fn y = true ∨ X.env.scope.names.lookup y = some .local := by first | exact .inl rfl | exact .inr rfl | assumption)
    (hs : ∀ x, foldedSetIterable iter X.env x = pure x := by intro _; rfl) : PS X (.Assign [.Name y py] (.ListComp elt [⟨tg, iter, ifs, 0⟩] scope pos) spos) (tAsg (tComp wi g tc te js) (gName i)) := by
  intro pins s σ H D I h
  obtain ⟨cl, hcl, h1, h2⟩ := closure_of (scope := scope) (env := X.env) fun y hy hf => I.ok.has y.1 (by have := Sc.free y hy hf; rw [← hS] at this; exact this)
  rw [exec_Assign_Name_used _ _ _ _ hsw]
  refine wpAny_bind (wpAny_standAt (wpAny_bind ?_))
  show wpAny _ _ (do let _ ← comprehension (.ListComp elt [⟨tg, iter, ifs, 0⟩] scope pos) scope X.env _ (newList []) false (eval iter X.env) (some (assign (.Name y py) X.env))) _ _ s
  refine wpAny_bind (wpAny_mono (wpAny_comprehension_free (use := some (assign (.Name y py) X.env)) (Q := fun _ s' => SP X pins D .next s') rfl hs hcl Sc.kind Sc.loc
    (thn (hi pins s σ H _ I h) fun xv s1 h1' => thn h1' fun itv s2 h2' => ?_)) (fun _ s' hq => wpAny_pure (wpAny_pure hq)) fun _ _ e => e)
  obtain ⟨it, fp, tn, J, H2, rfl, I2, T, st2, f2, q⟩ := h2'
  refine comp_block (RR := fun acc C => compPost (model X.prog X.w) X.A X.xe (some (assign (.Name y py) X.env)) (fun _ s' => SP X pins D .next s') acc C) hc I2 hS Sc h1 h2 T st2 f2 hg ht he q ?_
  rintro A C H' s' I' f' ⟨m, hm⟩ qD
  show wpAny _ _ (assign (.Name y py) X.env (.ref A)) _ _ _
  refine wpAny_assign_Name (store_ok2 I' hN hiy hx (v := .ref A) rfl (fun s'' I'' hch => ?_) hf)
  obtain ⟨a, hsb, ha⟩ := hch
  have hCa : C ≠ a := by
    rcases ha with z | z
    · rw [z]; exact f'.2.1
    · exact fun e => f'.2.2.2.2.1 y a z e.symm
  refine ⟨m, hm.sameBut hsb hCa, fun h' hs' => ⟨_, H', I''.turned (t' := s''.toks) (fun b o hb e => (hs'.2 b hb).trans e) f'.1 f'.2.1 f'.2.2.2.1 f'.2.2.2.2.1 f'.2.2.2.2.2, qD⟩⟩
end
theorem comp_seq {J : It} {xs : List V} {te : TE} {js : List Nat} {σ : St} {H1 : Hp} {Q : VK} {D : Addr} (f : Nat → V) (hn : xs.length ≤ sizeLine)
    (hgo : ∀ i acc, i < xs.length → J.go i (upd H1 D (.lst acc))) (hst : ∀ acc, J.stop xs.length (upd H1 D (.lst acc))) (hy : ∀ i acc y H2, i < xs.length → J.yld i (upd H1 D (.lst acc)) y H2 → xs[i]? = some y ∧ H2 = upd H1 D (.lst acc))
    (he : ∀ (i : Nat) (y : V) (acc : List V) (R : VK), xs[i]? = some y → R (f i) (upd H1 D (.lst acc)) → te (some y :: js.map fun j => (σ[j]?).getD none) (upd H1 D (.lst acc)) R)
    (hq : Q (.ref D) (upd H1 D (.lst ((List.range xs.length).map f)))) : CompW J (gName 0) tYes te js σ H1 Q D := by
  refine ⟨fun i m acc σ' H' => m = xs.length - i ∧ i ≤ xs.length ∧ acc = (List.range i).map f ∧ (∃ v, σ' = v :: js.map fun j => (σ[j]?).getD none) ∧ H' = upd H1 D (.lst acc), ⟨xs.length, by simp, Nat.zero_le _, rfl, ⟨none, rfl⟩, rfl⟩, ?_⟩
  rintro i m acc σ' H' ⟨rfl, hi, rfl, ⟨v, rfl⟩, rfl⟩
  refine ⟨upd_same, ?_⟩
  by_cases hlt : i < xs.length
  · refine .inr ⟨hgo i _ hlt, by rw [List.length_map, List.length_range]; omega, ?_⟩
    intro y H2 hyl
    obtain ⟨hx, rfl⟩ := hy i _ y H2 hlt hyl
    show te (some y :: js.map fun j => (σ[j]?).getD none) _ _
    refine he i y _ _ hx ⟨upd_same, xs.length - (i + 1), by omega, rfl, hlt, ?_, ⟨_, rfl⟩, ?_⟩
    · rw [List.range_succ, List.map_append]; rfl
    · rw [upd_upd]
  · have e : i = xs.length := by omega
    subst e
    exact .inl ⟨hst _, hq⟩
theorem comp_list {K : PySem.W.Frag} {a : Addr} {xs : List V} {te : TE} {js : List Nat} {σ : St} {H1 : Hp} {Q : VK} {D : Addr} (f : Nat → V) (hn : xs.length ≤ sizeLine) (hl : ∀ acc, SqL K (upd H1 D (.lst acc)) a xs)
    (he : ∀ (i : Nat) (y : V) (acc : List V) (R : VK), xs[i]? = some y → R (f i) (upd H1 D (.lst acc)) → te (some y :: js.map fun j => (σ[j]?).getD none) (upd H1 D (.lst acc)) R)
    (hq : Q (.ref D) (upd H1 D (.lst ((List.range xs.length).map f)))) : CompW (Itl K a) (gName 0) tYes te js σ H1 Q D :=
  comp_seq f hn (fun i acc hi => ⟨xs, xs[i], hl acc, by simp [hi]⟩) (fun acc => ⟨xs, hl acc, Nat.le_refl _⟩) (fun i acc y H2 hi h => ⟨h.2 xs (hl acc), h.1⟩) he hq
end L2
namespace L2
open PySem PySem.Spec PyProof.Rows
section
variable {X : Cx}
def tTupRev (K : PySem.W.Frag) (ta : TA) : TE := fun σ H Q => ta σ H fun vs H1 => ∃ a xs, vs = [.ref a] ∧ SqT K H1 a xs ∧ ∀ p, H1 p = none → Q (.ref p) (upd H1 p (.tup xs.reverse))
theorem vals_rev {xs : List V} {its : List Value} (r : Vals xs its) {acc : Array Value} (h : ItemsOf (fun i v => its.toArray[its.toArray.size - 1 - i]? = some v) acc its.toArray.size) : Vals xs.reverse acc.toList := by
  have e : acc.toList = its.reverse := by
    apply List.ext_getElem?
    intro i
    have hl : acc.size = its.length := by simpa using h.1
    by_cases hi : i < its.length
    · have hi' : i < acc.size := by omega
      have := h.2 i acc[i] (by simp [hi'])
      rw [List.getElem?_reverse hi, Array.getElem?_toList, show acc[i]? = some acc[i] by simp [hi']]
      rw [List.size_toArray] at this
      rw [← this]
      simp
    · rw [List.getElem?_eq_none (by simp; omega), List.getElem?_eq_none (by simp; omega)]
  rw [e]
  exact r.reverse
def tBMT (r : V → List V → Hp → VK → Prop) (to : TE) (t : TA) : TE := fun σ H Q => to σ H fun x H1 => (∃ a xs, x = .ref a ∧ H1 a = some (.tup xs)) ∧ t σ H1 fun xs H2 => r x xs H2 Q
variable {o e : Expr} {es : List Expr} {to : TE} {t : TA} {name : Str} {apos cpos : Pos} {id : String} {r : V → List V → Hp → VK → Prop}
def rIndexT (K : PySem.W.Frag) : V → List V → Hp → VK → Prop := fun x vs H Q => ∃ (a : Addr) (ns : List Int) (k : Int), x = .ref a ∧ vs = [.int k] ∧ SqT K H a (ns.map V.int) ∧ k ∈ ns ∧ Q (.int (ns.idxOf k : Nat)) H
end
end L2
namespace Tn
open PySem L2
def spStir : Sp := fun vs H Q _ => ∃ c k : Int, vs = [.int c, .int k] ∧ ∀ z : Int, Q (.int z) H
def spCell (K : PySem.W.Frag) : Sp := fun vs H Q _ => ∃ (a : Addr) (ns : List Int) (k : Int), vs = [.ref a, .int k] ∧ SqL K H a (ns.map V.int) ∧ ns.length ≤ 63 ∧ 0 ≤ k ∧ k ≤ 1000000 ∧ ∀ z : Int, Q (.int z) H
def spMany : Sp := fun vs H Q _ => ∃ c : Int, vs = [.int c] ∧ ∀ m : Nat, 1 ≤ m → m ≤ 60 → Q (.int (m : Int)) H
def spOrder (K : PySem.W.Frag) : Sp := fun vs H Q _ => ∃ (a : Addr) (ns : List Int) (f : Int) (m : Nat), vs = [.ref a, .int f, .int (m : Int)] ∧ SqL K H a (ns.map V.int) ∧ ns.length ≤ 63 ∧ 0 ≤ f ∧ f ≤ 1000 ∧ m ≤ 60 ∧
  ∀ (l : Addr) (ord : List Int) (H' : Hp), H l = none → H' l = some (.lst (ord.map V.int)) → Same H H' → IsOrd ord → ord.length = m → Q (.ref l) H'
def spTold (K : PySem.W.Frag) : Sp := fun vs H Q _ => ∃ (p d : Addr) (ns : List Int), vs = [.ref p, .ref d] ∧ H p = some (.tup (ns.map V.int)) ∧ ns.length ≤ 1000 ∧ (SqL K H d (ns.map V.int) ∨ SqT K H d (ns.map V.int)) ∧ ∀ H', Same H H' → Q (.bl true) H'
structure Blt (mg : Str → Option Value) : Prop where
  len : mg "len" = none
  rng : mg "range" = none
  lst : mg "list" = none
  tup : mg "tuple" = none
  isi : mg "isinstance" = none
  int : mg "int" = none
  bl : mg "bool" = none
theorem boot_isi : bootBuiltins "isinstance" = some (.builtin "isinstance") := by decide +kernel
theorem boot_ty_tuple : bootBuiltins "tuple" = some (.type "tuple") := by decide +kernel
theorem boot_ty_int : bootBuiltins "int" = some (.type "int") := by decide +kernel
theorem boot_ty_bool : bootBuiltins "bool" = some (.type "bool") := by decide +kernel
theorem boot_ty_list : bootBuiltins "list" = some (.type "list") := by decide +kernel
theorem same_upd {H : Hp} {a : Addr} {o : HO} (h : H a = none) : Same H (upd H a o) := fun b u e => by rw [upd_ne (ne_of_none e h)]; exact e
theorem _root_.L2.Same.sqt {K : PySem.W.Frag} {H H' : Hp} {a : Addr} {xs : List V} (e : Same H H') (h : SqT K H a xs) : SqT K H' a xs := by
  rcases h with (h | ⟨o, h⟩) | h
  · exact .inl (.inl (e _ _ h))
  · exact .inl (.inr ⟨o, e _ _ h⟩)
  · exact .inr h
theorem ints_get {ns : List Int} {i : Nat} {y : V} (h : (ns.map V.int)[i]? = some y) : ∃ z, ns[i]? = some z ∧ y = V.int z := by
  rw [List.getElem?_map] at h
  cases e : ns[i]? with
  | none => rw [e] at h; cases h
  | some z => rw [e] at h; exact ⟨z, rfl, (Option.some.inj h).symm⟩
theorem get_ints {ns : List Int} {i : Nat} {z : Int} (h : ns[i]? = some z) : (ns.map V.int)[i]? = some (V.int z) := by
  rw [List.getElem?_map, h]; rfl
theorem at_ints {ns : List Int} {j : Nat} {z : Int} (h : ns[j]? = some z) : atI (ns.map V.int) (j : Int) = some (V.int z) := atI_nat (get_ints h)
theorem line1000 {n : Nat} (h : n ≤ 1000) : n ≤ sizeLine := Nat.le_of_lt (small1000 h)
section
variable {P : Program} {w : World} {K : PySem.W.Frag} {mg : Str → Option Value} {base : Heap}
end
end Tn
namespace Tn
open PySem PySem.W PySem.Calls PyProof.Rows PySem.Spec PySem.Builtin PySem.Builtin.ObjectAttr PySem.Builtin.Getset_descriptor
structure ExcTxt (K : Frag) (D : Addr) : Prop where
  cls : (clsIn K D).isSome = true
  ga : findIn K (.ref D) "__getattribute__" = some (some (.builtin "BaseException.__getattribute__"))
  hook : findIn K (.ref D) "__getattr__" = some none
  ca : findIn K (.ref D) "__class__" = some (some (.builtin "object.__class__"))
  sp : specialIn K (.builtin "object.__class__") "__get__" = some (some (.builtin "getset_descriptor.__get__"))
  tk : takesIn K (.builtin "object.__class__") = some true
  ob : mroIn K D (.type "object") = some true
  be : mroIn K D (.type "BaseException") = some true
def ExAt (h : Heap) (x D : Addr) : Prop := ∃ ox, h.get? x = some ox ∧ ox.cls = .ref D
section
variable {prog : Program} {w : World} {A : Around} {E : Value → Shared → Prop} {s : Shared} {K : Frag} {x D : Addr}
theorem ExAt.type {M : Model} {h : Heap} (I : ExAt h x D) : Looks M h (typeOf (.ref x)) (.ref D) := by
  obtain ⟨ox, hx, hc⟩ := I
  exact hc ▸ (Looks.ld hx).andThen .now
end
end Tn
namespace Tn
open L2 PySem PySem.W PySem.Calls PyProof.Rows PySem.Spec
section
variable {P : Program} {w : World} {H H' : Hp} {h : Heap} {a : Addr} {o : HO}
theorem obj_has (x : ObjOk P w H h a o) : ∃ u, h.get? a = some u := by
  cases o with
  | lst xs => obtain ⟨_, _, _, _, e⟩ := x; exact ⟨_, e⟩
  | tup xs => obtain ⟨_, _, _, _, e, _⟩ := x; exact ⟨_, e⟩
  | dK kvs => obtain ⟨_, _, _, _, o, _, _, e, _⟩ := x; exact ⟨_, e⟩
  | dT kvs => obtain ⟨_, _, _, _, o, _, _, e, _⟩ := x; exact ⟨_, e⟩
  | set S n => obtain ⟨o, _, _, _, e, _⟩ := x; exact ⟨_, e⟩
  | ins C dx fs => obtain ⟨_, _, _, e, _⟩ := x; exact ⟨_, e⟩
  | own y => obtain ⟨_, e⟩ := x; exact ⟨_, e⟩
  | xd fs => obtain ⟨_, ⟨_, _, _, e, _⟩, _⟩ := x; exact ⟨_, e⟩
  | rng lo hi => obtain ⟨_, _, _, e⟩ := x; exact ⟨_, e⟩
  | frz ob u => obtain ⟨e, _⟩ := x; exact ⟨_, e⟩
  | tbl ps => exact ⟨_, (show h.get? a = some _ from x)⟩
  | lam q => obtain ⟨_, e, _⟩ := x; exact ⟨_, e⟩
  | met f y => exact ⟨_, (show h.get? a = some _ from x)⟩
  | ext φ => obtain ⟨_, ⟨_, e⟩, _⟩ := x; exact ⟨_, e⟩
end
structure Cover (B h0 : Heap) (fs : List Addr) (H' : Hp) : Prop where
  trk : ∀ a o, H' a = some o → ∃ u, B.get? a = some u
  std : ∀ b o, h0.get? b = some o → b ∉ fs → ∃ u, B.get? b = some u
theorem lie_step {P : Program} {w : World} {fs : List Addr} {H H' : Hp} {B h0 h h' : Heap} (u : Un fs [] H H' h0 h) (ok : HOk P w H' h) (c : Cover B h0 fs H') (hf : ∀ b ∈ fs, ∃ o, h.get? b = some o ∧ ∀ vs, o.data ≠ .fields vs)
    (k : B.StaysIn h) (k' : B.StaysIn h') (sl : h.UpToSlots h') : Un fs [] H H' h0 h' ∧ HOk P w H' h' := by
  have inB : ∀ b o v, B.get? b = some v → h.get? b = some o → h'.get? b = some o := fun b o v e q => by
    have := k b v e
    rw [q] at this; cases this
    exact k' b _ e
  refine ⟨⟨fun b o e n hb hx => ?_, fun b o e n hb hx => ?_, u.free, fun b o e hx => ?_, u.tups, u.frzs, u.tbls⟩, fun a o e => ?_⟩
  · obtain ⟨v, hv⟩ := c.std b o e hb
    exact inB b o v hv (u.keep b o e n hb hx)
  · obtain ⟨s1, e1⟩ := u.slot b o e n hb hx
    obtain ⟨o2, e2, d2⟩ := hf b hb
    rw [e1] at e2; cases e2
    obtain ⟨s2, e3⟩ := sl b _ e1 d2
    exact ⟨s2, e3⟩
  · obtain ⟨o1, e1⟩ := u.there b o e hx
    by_cases hb : b ∈ fs
    · obtain ⟨o2, e2, d2⟩ := hf b hb
      obtain ⟨s2, e3⟩ := sl b _ e2 d2
      exact ⟨_, e3⟩
    · obtain ⟨v, hv⟩ := c.std b o e hb
      exact ⟨_, inB b o1 v hv e1⟩
  · refine (ok a o e).stay (fun b v hb q => ?_) (fun _ q => q) fun _ _ q => q
    rcases hb with rfl | hb
    · obtain ⟨z, hz⟩ := c.trk _ _ e
      exact inB _ v z hz q
    · obtain ⟨z, hz⟩ := c.trk _ _ hb
      exact inB _ v z hz q
def CXV (P : Program) (w : World) : CXT := fun outer H s E e s' => ∃ (x : Addr) (cls a0 : Value) (B : Heap) (H' : Hp), e = .ref x ∧ s'.os = s.os ∧ AllBare s'.gens ∧ Un (frs outer) [] H H' s.heap s'.heap ∧ HOk P w H' s'.heap ∧
  Heap.FlyingW B outer x cls a0 s'.heap ∧ Cover B s.heap (frs outer) H' ∧ H' x = none ∧ E cls none H'
theorem fly_frames {B h : Heap} {l : List Env} {x : Addr} {cls a0 : Value} (f : Heap.FlyingW B l x cls a0 h) : ∀ b ∈ frs l, ∃ o, h.get? b = some o ∧ ∀ vs, o.data ≠ .fields vs := fun b hb => (f.2.2.1.mem hb).2
section
variable {P : Program} {w : World} {K : Frag} {mg : Str → Option Value} {base : Heap} {N : List Str} {qual : Str} {scope : Scope} {f : Addr} {cd : Value} {A : Around} {outer : List Env} {s : Shared} {H : Hp} {E : XK}
theorem out_std {X : Cx} {pins : List (Addr × Obj)} {σ : L2.St} {H1 : Hp} {s1 : Shared} (I : Inv X pins σ H1 s1) (hx : X.ex = []) : ∀ b o, X.s₀.heap.get? b = some o → b ∉ X.fs → (∃ o', s1.heap.get? b = some o') ∧ b ∉ frs X.stack := fun b o e hb => by
  refine ⟨I.base.there b o e (by rw [hx]; simp), fun hz => ?_⟩
  rcases List.mem_cons.mp (I.stkSub b hz) with q | q
  · have h1 := Heap.lt_size e
    have h2 := I.ok.above
    rw [q] at h1
    exact absurd (Nat.lt_of_lt_of_le h1 h2) (Nat.lt_irrefl _)
  · exact hb q
theorem passV : Passes (CXV P w) (cxOf (CXV P w) P w K mg base N qual scope f cd A outer s H E) E := by
  intro pins σ H1 s1 e s' I h
  obtain ⟨x, cls, a0, B, H', rfl, os, bare, un, hok, fl, c, hn, hE⟩ := h
  show wpAny _ _ (leaving _ _) _ _ _
  refine wpAny_leaves_onW (base := B) (cls := cls) (a0 := a0) I.ok.frames rfl fl fun h2 fl2 sl => ?_
  obtain ⟨un2, hok2⟩ := lie_step un hok c (fly_frames fl) fl.1 fl2.1 sl
  have J := I.call' (s' := { s' with heap := h2 }) (ch := []) os un2 hok2 bare (fun b z => absurd z (by simp))
  refine ⟨x, cls, a0, B, H', rfl, J.os, J.bare, J.base, J.hok, fl2, ⟨c.trk, fun b o e hb => ?_⟩, hn, hE⟩
  obtain ⟨⟨o', e'⟩, nb⟩ := out_std I rfl b o e hb
  exact c.std b o' e' nb
def Throws (X : Cx) (E : XK) : Prop := ∀ (pins : List (Addr × Obj)) (σ : L2.St) (H1 : Hp) (s1 : Shared) (h' : Heap) (e C : Addr) (vs : List Value), Inv X pins σ H1 s1 → Heap.MadeExcOf s1.heap h' e (.ref C) vs → E (.ref C) none H1 → X.xe (.ref e) { s1 with heap := h' }
theorem throwV : Throws (cxOf (CXV P w) P w K mg base N qual scope f cd A outer s H E) E := by
  intro pins σ H1 s1 h' e C vs I m hE
  show wpAny _ _ (leaving _ _) _ _ _
  have st := I.stack
  have hin : ∀ env ∈ (cxOf (CXV P w) P w K mg base N qual scope f cd A outer s H E).stack, ∀ b, env.frame = some b → b ∈ frs (cxOf (CXV P w) P w K mg base N qual scope f cd A outer s H E).stack := fun env he b hb => List.mem_filterMap.mpr ⟨env, he, hb⟩
  refine wpAny_leaves_madeW (base := hideAll s1.heap (frs (cxOf (CXV P w) P w K mg base N qual scope f cd A outer s H E).stack)) I.ok.frames rfl (fun b o q => of_hideAll _ q) (funFrames_hide st hin) m fun h2 t fl _ _ sl => ?_
  have c : Cover (hideAll s1.heap (frs (cxOf (CXV P w) P w K mg base N qual scope f cd A outer s H E).stack)) s1.heap (frs (cxOf (CXV P w) P w K mg base N qual scope f cd A outer s H E).stack) H1 :=
    ⟨fun a o q => by
      obtain ⟨u, hu⟩ := obj_has (I.hok a o q)
      exact ⟨u, hideAll_get _ hu fun z => by rw [I.stkFree a z] at q; cases q⟩, fun b o q hb => ⟨o, hideAll_get _ q hb⟩⟩
  have fr : ∀ b ∈ frs (cxOf (CXV P w) P w K mg base N qual scope f cd A outer s H E).stack, ∃ o, h'.get? b = some o ∧ ∀ vs, o.data ≠ .fields vs := fun b hb => by
    obtain ⟨_, o, ho, hd⟩ := st.mem hb
    exact ⟨o, m.keeps b o ho, hd⟩
  obtain ⟨un2, hok2⟩ := lie_step (Un.kept m.keeps) (I.hok.kept m.keeps) c fr (fun b o q => m.keeps b o (of_hideAll _ q)) fl.1 sl
  have J := I.call' (s' := { s1 with heap := h2 }) (ch := []) rfl un2 hok2 I.bare (fun b z => absurd z (by simp))
  refine ⟨e, .ref C, .ref t, _, H1, rfl, J.os, J.bare, J.base, J.hok, fl, ⟨c.trk, fun b o e hb => ?_⟩, ?_, hE⟩
  · obtain ⟨⟨o', e'⟩, nb⟩ := out_std I rfl b o e hb
    exact c.std b o' e' nb
  · cases q : H1 e with
    | none => rfl
    | some o =>
      obtain ⟨u, hu⟩ := obj_has (I.hok e o q)
      rw [m.new] at hu; cases hu
theorem funV {x : Str} {st : Stmt} {fd : FuncData} {ps : List Str} {k : Nat} {sp : Sp} (F : L2.Fun K x qual st f fd) (S : FnScope N ps (defScope st)) (len : ∀ vs H Q E, sp vs H Q E → vs.length = ps.length)
    (hbody : ∀ (cdv : Value) (A : Around) (outer : List Env) (s : Shared) (H : Hp) (vs : List V) (Q : VK) (E : XK), Room k (A.deeper (envOfC qual (defScope st) s.heap.objs.size f cdv)) → sp vs H Q E →
      ∃ t, PSs (cxOf (CXV P w) P w K mg base N qual (defScope st) f cdv A outer s H E) (defBody st) t ∧ t { nx := fun _ H' => Q .non H', rt := Q } (start N vs) H) : FnOk P w K mg base (CXV P w) (k + 1) f fd ps sp := by
  obtain ⟨oc, od, kV, doc, pm, an, cdv, ct, osl, rfl, lk, hcd⟩ := F.ex
  exact fn_of lk hcd S len fun A outer s H vs Q E hr hsp => hbody cdv A outer s H vs Q E hr hsp
end
theorem exc_obj {K : Frag} {h : Heap} {C : Addr} {bmB : List Value} {newId : String} (X : K.In h) (q : excIn K C bmB newId = true) :
    ∃ bm N nm qn bs hdct sn sub ab col dd k0 k1 k2 k3 k5 mN, h.get? C = some (excClassObj nm qn C N bs bm hdct sn sub ab col dd k0 k1 k2 k3 k5 newId) ∧ h.Ns N mN ∧ mN "__init__" = none ∧ OwnTail h bmB bm := by
  unfold excIn at q
  split at q
  case h_2 => cases q
  rename_i dd cd sl ho
  split at q
  case h_2 => cases q
  rename_i C' bm k0 k1 k2 k3 n k5 hm hs
  simp only [Bool.and_eq_true, beq_iff_eq, Bool.not_eq_true'] at q
  obtain ⟨⟨⟨⟨⟨e1, e2⟩, e3⟩, e4⟩, e5⟩, e6⟩ := q
  subst e1 e2
  obtain ⟨nm, bs, mro, ns, qn, hd, sn, sub, ab, col, del⟩ := cd
  dsimp only at hm e3 e5 e6
  subst hm e3
  obtain ⟨l⟩ := sl
  simp only at hs
  subst hs
  exact ⟨bm, ns, nm, qn, bs, hd, sn, sub, ab, col, dd, k0, k1, k2, k3, k5, h.nsMap ns, X _ _ ho, .of_isNs (isNs_of_in X e5), nsMap_none_of_in X e5 e6, tail_of_in X e4⟩
def sRaise (C : Addr) (E : XK) (t : TA) : TS := fun _ σ H => t σ H fun vs H1 => vs.length ≤ sizeLine ∧ E (.ref C) none H1
abbrev bmVE : List Value := [.type "ValueError", .type "Exception", .type "BaseException", .type "object"]
theorem ps_raise {X : Cx} {E : XK} {x : Str} {np cpos pos : Pos} {e : Expr} {es : List Expr} {t : TA} {C : Addr} (ht : Throws X E) (hc : X.calm = true) (hg : Gl X x) (hm : X.mg x = some (.ref C)) (hC : excIn X.K C bmVE "ValueError.__new__" = true) (ha : PA X (e :: es) t)
    (hd : (x == ("__debug__" : Str)) = false := by decide) (he : starEach (e :: es) X.env = (false, eval e X.env) :: starEach es X.env := by rfl) (hpl : (backTo cpos (starEach es X.env)).any (·.1) = false := by rfl) :
    PS X (.Raise (some (.Call (.Name x np) (e :: es) [] cpos)) none pos) (sRaise C E t) := by
  intro pins s σ H D I h
  obtain ⟨bm, N, nm, q, bs, hdct, sn, sub, ab, col, dd, k0, k1, k2, k3, k5, mN, o1, o2, o3, o4⟩ := exc_obj I.ok.mod.kin hC
  have hpl2 : (backTo cpos (starEach (e :: es) X.env)).any (·.1) = false := by
    rw [he]; show (false || (backTo cpos (starEach es X.env)).any (·.1)) = false; rw [hpl]; rfl
  refine wpAny_Raise_call_subT F.excBase_ValueError (C := C) (N := N) (nm := nm) (q := q) (bs := bs) (bm := bm) (hdct := hdct) (sn := sn) (sub := sub) (ab := ab) (col := col) (dd := dd) (k0 := k0) (k1 := k1) (k2 := k2) (k3 := k3) (k5 := k5) (mN := mN)
    (o4.hasType F.excBase_ValueError.hasBase) (I.ok.hd hc) hpl2 o3 (ld_glob I hg hm ⟨rfl, ?_⟩ hd)
  have key := ha cpos pins s σ H _ I h
  rw [he] at key ⊢
  refine Calls.evalArgs_plain (wpAny_mono key (fun us s2 z => ?_) fun _ _ y => y)
  obtain ⟨vs, H1, I1, r, hl, hE⟩ := z
  have kp := I1.bk
  exact ⟨rfl, by rw [← r.length]; exact hl, kp _ _ o1, o2.keeps kp, o4.keeps kp, fun h' e m => ht pins σ H1 s2 h' e C us I1 m hE⟩
end Tn
namespace Tn
open L2 PySem PySem.W PySem.Calls PyProof.Rows PySem.Spec
abbrev caught (X : Cx) (x : Addr) : Cx := { X with A := X.A.mark (some (.ref x)), calm := false, xe := fun _ _ => False }
section
variable {X : Cx} {pins : List (Addr × Obj)} {σ : L2.St} {H : Hp} {s : Shared}
end
abbrev exO (x D : Addr) : HO := .ext fun h => ExAt h x D
def sTry (K : Frag) (C : Addr) (sp : Sp) (t : TA) (i : Nat) (tH : Addr → TS) : TS := fun D σ H => t σ H fun vs H1 => sp vs H1 (fun _ H2 => D.nx σ H2) fun cls _ H2 => ∃ Dd, cls = .ref Dd ∧ ExcTxt K Dd ∧ mroIn K Dd (.ref C) = some true ∧
  ∀ x, H2 x = none → tH x { nx := fun σ' H' => D.nx (σ'.set i none) H', rt := fun _ _ => False } (σ.set i (some (.ref x))) (upd H2 x (exO x Dd))
structure CatTxt (K : Frag) (C : Addr) : Prop where
  cls : (clsIn K C).isSome = true
  ty : typeIn K (.ref C) = some (.type "type")
  be : mroIn K C (.type "BaseException") = some true
def rIsX (K : Frag) : List V → Hp → VK → Prop := fun xs H Q => ∃ x D c b, xs = [.ref x, c] ∧ H x = some (exO x D) ∧ ExcTxt K D ∧
  ((∃ n, c = .ty n ∧ kitOne K (.ref D) (.type n) = some b) ∨ (∃ C, c = .ref C ∧ kitOne K (.ref D) (.ref C) = some b) ∨ ∃ (tp : Addr) (cs : List Addr), c = .ref tp ∧ H tp = some (.tup (cs.map V.ref)) ∧ kitAny K (.ref D) (cs.map Value.ref) = some b) ∧ Q (.bl b) H
end Tn
namespace Tn
open PySem PySem.Calls
section
variable {prog : Program} {w : World} {A : Around} {E : Value → Shared → Prop} {s : Shared}
end
end Tn
namespace L2
open PySem PySem.Spec PyProof.Rows
section
variable {X : Cx}
theorem int_items : ∀ {ns : List Int} {its : List Value}, Vals (ns.map V.int) its → ∃ xs : List (Int × Tok), its = xs.map (fun p => Value.int p.1 p.2) ∧ xs.map (·.1) = ns
  | [], _, .nil => ⟨[], rfl, rfl⟩
  | n :: ns, _, .cons r t => by
    obtain ⟨xs, rfl, e⟩ := int_items t
    obtain ⟨tk, rfl⟩ := r
    exact ⟨(n, tk) :: xs, rfl, by rw [List.map_cons, e]⟩
theorem sum_ints {prog : Program} {w : World} {A : Around} {E : Value → Shared → Prop} {s : Shared} {l : Addr} {xs : Array (Int × Tok)} {Q : Value → Shared → Prop} (hh : A.handled = none) (hl : s.heap.IsList l (intItems xs))
    (h : ∀ h' tk t', (∀ b o, s.heap.get? b = some o → h'.get? b = some o) → Q (.int (preSum (numAt xs) xs.size) t') { s with heap := h', toks := tk }) : wpAny (model prog w) A (call (.builtin "sum") [.ref l]) Q E s := by
  refine call_sum_walkG (iter_intList hl fun s₂ e st hfp hlI => ?_)
  subst e
  refine ⟨_, _, _, _, _, _, numAt xs, rfl, Walks.list (A := A.in1) hh _ l hlI (intItems xs), st, hfp, (fun _ _ => intItems_at), fun h' tk t' hk => ?_⟩
  have := h h' tk t' (old_kept hk)
  simpa [intItems] using this
theorem call_sumL (hc : X.calm = true) : CallR X (.builtin "sum") (fun vs H Q => ∃ (p : Addr) (ns : List Int), vs = [.ref p] ∧ SqL X.K H p (ns.map V.int) ∧ Q (.int ns.sum) H) := by
  intro pins s σ H xs us Q I r h
  obtain ⟨p, ns, rfl, hp, q⟩ := h
  obtain ⟨u, rfl, rx⟩ := vals1 r
  cases rx
  obtain ⟨its, rv, pl, _⟩ := I.list hp
  obtain ⟨zs, rfl, hz⟩ := int_items rv
  have hl : s.heap.IsList p (intItems zs.toArray) := by
    have := pl.isList
    simpa [intItems] using this
  refine sum_ints (I.ok.hd hc) hl fun h' tk t' kp => ⟨.int ns.sum, H, I.kept kp, ⟨t', ?_⟩, q⟩
  have e : preSum (numAt zs.toArray) zs.toArray.size = ns.sum := by
    rw [preSum_eq, ← hz]
    simp only [List.size_toArray]
    rw [List.take_of_length_le (by simp)]
  rw [e]
def eqK (x y : V) : Option Bool := if flatV x && flatV y then some (eqV x y) else if x = y then (match x with | .ref _ => some true | _ => none) else none
theorem eqK_at {A : Around} {s : Shared} {x y : V} {u v : Value} {b : Bool} (h : eqK x y = some b) (rx : RelV x u) (ry : RelV y v) : SeqAt.EqAt A s u v b := by
  unfold eqK at h
  split at h
  · rename_i hf
    cases h
    have hf' : flatV x = true ∧ flatV y = true := by simpa using hf
    exact eqAt_V rx ry hf'.1 hf'.2
  · split at h
    · rename_i e
      subst e
      cases x with
      | ref a =>
        cases h
        obtain rfl : u = Value.ref a := rx
        obtain rfl : v = Value.ref a := ry
        exact SeqAt.EqAt.same _
      | _ => cases h
    · cases h
def eqKs : List V → List V → Option Bool
  | [], [] => some true
  | x :: xs, y :: ys => (eqK x y).bind fun b => (eqKs xs ys).map fun c => b && c
  | _, _ => none
theorem eqKs_get : ∀ {xs ys : List V} {b : Bool}, eqKs xs ys = some b → xs.length = ys.length ∧ ∃ e : Nat → Bool, (∀ j x y, xs[j]? = some x → ys[j]? = some y → eqK x y = some (e j)) ∧ (List.range xs.length).all e = b
  | [], [], b, h => by cases h; exact ⟨rfl, fun _ => true, (fun _ _ _ e => nomatch e), rfl⟩
  | x :: xs, y :: ys, b, h => by
    unfold eqKs at h
    obtain ⟨b1, h1, h⟩ := Option.bind_eq_some_iff.mp h
    obtain ⟨b2, h2, rfl⟩ := Option.map_eq_some_iff.mp h
    obtain ⟨hl, e, he, ha⟩ := eqKs_get h2
    refine ⟨by simp [hl], fun j => match j with | 0 => b1 | j + 1 => e j, fun j a c ea ec => ?_, ?_⟩
    · cases j with
      | zero => simp only [List.getElem?_cons_zero, Option.some.injEq] at ea ec; subst ea ec; exact h1
      | succ j => simp only [List.getElem?_cons_succ] at ea ec; exact he j a c ea ec
    · rw [List.length_cons, List.range_succ_eq_map, List.all_cons, List.all_map, ← ha]
      rfl
  | [], _ :: _, _, h => nomatch h
  | _ :: _, [], _, h => nomatch h
theorem eqKs_ints : ∀ (ns ms : List Int), ns.length = ms.length → eqKs (ns.map V.int) (ms.map V.int) = some (decide (ns = ms))
  | [], [], _ => rfl
  | n :: ns, m :: ms, h => by
    have ih := eqKs_ints ns ms (by simpa using h)
    show ((eqK (.int n) (.int m)).bind fun b => (eqKs (ns.map V.int) (ms.map V.int)).map fun c => b && c) = _
    rw [ih]
    by_cases h1 : n = m
    · by_cases h2 : ns = ms
      · simp [h1, h2, eqK, flatV, eqV]
      · simp [h1, h2, eqK, flatV, eqV]
    · simp [h1, eqK, flatV, eqV]
def rEqS (K : PySem.W.Frag) (neg : Bool) : R2 := fun x y H Q => ∃ a b xs ys, x = .ref a ∧ y = .ref b ∧ SqL K H a xs ∧ SqL K H b ys ∧ ((xs.length ≠ ys.length ∧ Q (.bl neg) H) ∨ ∃ e, eqKs xs ys = some e ∧ Q (.bl (if neg then !e else e)) H)
theorem items_eq {xs ys : List V} {its its2 : List Value} {A : Around} {s : Shared} {e : Nat → Bool} (r1 : Vals xs its) (r2 : Vals ys its2) (he : ∀ j x y, xs[j]? = some x → ys[j]? = some y → eqK x y = some (e j)) :
    ∀ j (h1 : j < its.toArray.size) (h2 : j < its2.toArray.size), SeqAt.EqAt A s its.toArray[j] its2.toArray[j] (e j) := fun j h1 h2 => by
  have l1 := r1.length
  have l2 := r2.length
  have h1' : j < xs.length := by rw [l1]; simpa using h1
  have h2' : j < ys.length := by rw [l2]; simpa using h2
  obtain ⟨v1, e1, rv1⟩ := r1.get (i := j) (x := xs[j]) (by simp [h1'])
  obtain ⟨v2, e2, rv2⟩ := r2.get (i := j) (x := ys[j]) (by simp [h2'])
  have i1 : its.toArray[j] = v1 := by
    have := (List.getElem?_eq_some_iff.mp e1).2
    simpa using this
  have i2 : its2.toArray[j] = v2 := by
    have := (List.getElem?_eq_some_iff.mp e2).2
    simpa using this
  rw [i1, i2]
  exact eqK_at (he j xs[j] ys[j] (by simp [h1']) (by simp [h2'])) rv1 rv2
theorem op_eqL (hu : X.A.units < cLine) : OpR X (compareOp .Eq) (rEqS X.K false) := by
  intro pins s σ H x y v u Q I rx ry h
  obtain ⟨a, b, xs, ys, rfl, rfl, ha, hb, h⟩ := h
  cases rx
  cases ry
  obtain ⟨its, r1, p1, _⟩ := I.list ha
  obtain ⟨its2, r2, p2, _⟩ := I.list hb
  have l1 := r1.length
  have l2 := r2.length
  rcases h with ⟨hl, q⟩ | ⟨k, hk, q⟩
  · exact SeqAt.eq_list_lengthsAt p1.isList p2.isList (by simp only [List.size_toArray, bne_iff_ne]; omega) hu ⟨.bl false, H, I, rfl, q⟩
  · obtain ⟨hl, e, he, hall⟩ := eqKs_get hk
    refine SeqAt.eq_listAt (e := e) p1.isList p2.isList (by simp only [List.size_toArray]; omega) hu (items_eq r1 r2 he) ⟨.bl k, H, I, ?_, q⟩
    show Value.bool _ = Value.bool k
    rw [← hall, List.size_toArray, ← l1]
theorem op_neL (hu : X.A.units < cLine) : OpR X (compareOp .NotEq) (rEqS X.K true) := by
  intro pins s σ H x y v u Q I rx ry h
  obtain ⟨a, b, xs, ys, rfl, rfl, ha, hb, h⟩ := h
  cases rx
  cases ry
  obtain ⟨its, r1, p1, _⟩ := I.list ha
  obtain ⟨its2, r2, p2, _⟩ := I.list hb
  have l1 := r1.length
  have l2 := r2.length
  rcases h with ⟨hl, q⟩ | ⟨k, hk, q⟩
  · exact SeqAt.RcNeAt.lists_lengths p1.isList p2.isList (by simp only [List.size_toArray, bne_iff_ne]; omega) hu X.prog X.w X.xe _ ⟨.bl true, H, I, rfl, q⟩
  · obtain ⟨hl, e, he, hall⟩ := eqKs_get hk
    refine SeqAt.RcNeAt.lists (e := e) p1.isList p2.isList (by simp only [List.size_toArray]; omega) hu (items_eq r1 r2 he) X.prog X.w X.xe _ ⟨.bl (!k), H, I, ?_, q⟩
    show Value.bool _ = Value.bool (!k)
    rw [← hall, List.size_toArray, ← l1]
end
theorem comp_inv {J : It} {n : Nat} {te : TE} {js : List Nat} {σ : St} {H1 : Hp} {Q : VK} {D : Addr} (P : Nat → List V → Hp → Prop) (h0 : P 0 [] (upd H1 D (.lst []))) (hD : ∀ i acc H', P i acc H' → H' D = some (.lst acc) ∧ acc.length = i) (hn : n ≤ sizeLine)
    (hgo : ∀ i acc H', i < n → P i acc H' → J.go i H') (hst : ∀ acc H', P n acc H' → J.stop n H' ∧ Q (.ref D) H')
    (hstep : ∀ i acc H' y H2 (R : VK), i < n → P i acc H' → J.yld i H' y H2 → (∀ z H5, H5 D = some (.lst acc) → P (i + 1) (acc ++ [z]) (upd H5 D (.lst (acc ++ [z]))) → R z H5) → te (some y :: js.map fun j => (σ[j]?).getD none) H2 R) :
    CompW J (gName 0) tYes te js σ H1 Q D := by
  refine ⟨fun i m acc σ' H' => m = n - i ∧ i ≤ n ∧ P i acc H' ∧ ∃ v, σ' = v :: js.map fun j => (σ[j]?).getD none, ⟨n, by simp, Nat.zero_le _, h0, none, rfl⟩, ?_⟩
  rintro i m acc σ' H' ⟨rfl, hi, hP, v, rfl⟩
  refine ⟨(hD i acc H' hP).1, ?_⟩
  by_cases hlt : i < n
  · refine .inr ⟨hgo i acc H' hlt hP, by rw [(hD i acc H' hP).2]; omega, fun y H2 hy => ?_⟩
    show te (some y :: js.map fun j => (σ[j]?).getD none) _ _
    exact hstep i acc H' y H2 _ hlt hP hy fun z H5 e1 e2 => ⟨e1, n - (i + 1), by omega, rfl, hlt, e2, _, rfl⟩
  · have e : i = n := by omega
    subst e
    exact .inl (hst acc H' hP)
end L2
namespace L2
open PySem PySem.Spec PyProof.Rows
section
variable {X : Cx}
end
end L2
namespace L2
open PySem
def csB (S scope : Scope) (x : Str) (N P : List Str) (js : List Nat) : Bool :=
  (scope.kind == .function) && scope.names.all (fun y => !(y.2 == .cell)) && scope.names.all (fun y => !(y.2 == .local) || scope.names.lookup y.1 == some .local) &&
  scope.names.all (fun y => !(y.2 == .free) || (S.names.lookup y.1 == some .cell || S.names.lookup y.1 == some .free)) && (scope.names.lookup x == some .local) && decide N.Nodup && (N == x :: (js.map fun j => (P[j]?).getD x)) &&
  js.all (fun j => match P[j]? with | some y => scope.names.lookup y == some .free | none => false)
theorem cs_of {S scope : Scope} {x : Str} {N P : List Str} {js : List Nat} (h : csB S scope x N P js = true) : CScope S scope x N P js := by
  unfold csB at h
  simp only [Bool.and_eq_true, List.all_eq_true, beq_iff_eq, decide_eq_true_eq, Bool.or_eq_true, Bool.not_eq_true'] at h
  obtain ⟨⟨⟨⟨⟨⟨⟨h1, h2⟩, h3⟩, h4⟩, h5⟩, h6⟩, h7⟩, h8⟩ := h
  refine ⟨h1, fun y hy e => ?_, fun y hy e => ?_, fun y hy e => ?_, h5, h6, h7, fun j hj => ?_⟩
  · have := h2 y hy; rw [e] at this; exact absurd this (by decide)
  · rcases h3 y hy with z | z
    · rw [e] at z; exact absurd z (by decide)
    · exact z
  · rcases h4 y hy with z | z
    · rw [e] at z; exact absurd z (by decide)
    · exact z
  · have := h8 j hj
    split at this
    · rename_i y ey
      exact ⟨y, ey, by simpa using this⟩
    · cases this
end L2
namespace L2
open PySem PySem.Spec PyProof.Rows
def isStar : Expr → Bool
  | .Starred _ _ => true
  | _ => false
end L2
namespace L2
open PySem
theorem if_go {a : TT} {t u : TS} {D : Ends} {σ : St} {H : Hp} (A : Bool) (ha : ∀ Q : Bool → Hp → Prop, Q A H → a σ H Q) (hT : A = true → t D σ H) (hF : A = false → u D σ H) : tIfS a t u D σ H := by
  refine ha _ ?_
  cases A with
  | true => exact hT rfl
  | false => exact hF rfl
end L2
namespace Tn
open PySem L2
def lens (xss : List (List Int)) : List Int := xss.map fun x => (x.length : Int)
def before (xss : List (List Int)) (w : Nat) : Int := ((lens xss).take w).sum
def togF (ord : List Int) (xss : List (List Int)) : List Int := ord.flatMap fun w => (xss.getD w.toNat []).map fun z => before xss w.toNat + z
def Tups (H : Hp) (ps : List Addr) (xss : List (List Int)) : Prop := Paired (fun p xs => H p = some (.tup (xs.map V.int))) ps xss
theorem Tups.len {H : Hp} : ∀ {ps : List Addr} {xss : List (List Int)}, Tups H ps xss → ps.length = xss.length
  | _, _, .nil => rfl
  | _, _, .cons _ t => by have := Tups.len t; simp [this]
theorem Tups.get {H : Hp} : ∀ {ps : List Addr} {xss : List (List Int)} {i : Nat} {p : Addr}, Tups H ps xss → ps[i]? = some p → ∃ xs, xss[i]? = some xs ∧ H p = some (.tup (xs.map V.int))
  | _, _, _, _, .nil, h => nomatch h
  | _, _, 0, _, .cons e _, h => by cases h; exact ⟨_, rfl, e⟩
  | _, _, i + 1, _, .cons _ t, h => Tups.get (i := i) t (by simpa using h)
theorem Tups.mono {H H' : Hp} (s : Same H H') : ∀ {ps : List Addr} {xss : List (List Int)}, Tups H ps xss → Tups H' ps xss
  | _, _, .nil => .nil
  | _, _, .cons e t => .cons (s _ _ e) (Tups.mono s t)
theorem Tups.app {H : Hp} : ∀ {ps qs : List Addr} {xss yss : List (List Int)}, Tups H ps xss → Tups H qs yss → Tups H (ps ++ qs) (xss ++ yss)
  | _, _, _, _, .nil, t => t
  | _, _, _, _, .cons e t, t' => .cons e (Tups.app t t')
theorem Tups.take {H : Hp} : ∀ {ps : List Addr} {xss : List (List Int)} (n : Nat), Tups H ps xss → Tups H (ps.take n) (xss.take n)
  | _, _, 0, _ => by simp; exact .nil
  | _, _, _ + 1, .nil => by simp; exact .nil
  | _, _, n + 1, .cons e t => by simp; exact .cons e (Tups.take n t)
theorem Tups.drop {H : Hp} : ∀ {ps : List Addr} {xss : List (List Int)} (n : Nat), Tups H ps xss → Tups H (ps.drop n) (xss.drop n)
  | _, _, 0, t => by simpa using t
  | _, _, _ + 1, .nil => by simp; exact .nil
  | _, _, n + 1, .cons _ t => by simpa using Tups.drop n t
theorem refs_get {ps : List Addr} {i : Nat} {y : V} (h : (ps.map V.ref)[i]? = some y) : ∃ p, ps[i]? = some p ∧ y = V.ref p := by
  rw [List.getElem?_map] at h
  obtain ⟨p, h1, h2⟩ := Option.map_eq_some_iff.mp h
  exact ⟨p, h1, h2.symm⟩
def spFirsts (K : PySem.W.Frag) : Sp := fun vs H Q _ => ∃ (l : Addr) (ps : List Addr) (xss : List (List Int)), vs = [.ref l] ∧ SqL K H l (ps.map V.ref) ∧ ps.length ≤ 1000 ∧ Tups H ps xss ∧
  ∀ (f : Addr) (H' : Hp), H f = none → H' f = some (.lst (((List.range xss.length).map fun i => before xss i).map V.int)) → Same H H' → Q (.ref f) H'
def spPut (K : PySem.W.Frag) (C : Addr) : Sp := fun vs H Q E => ∃ (o l : Addr) (ord : List Int) (ps : List Addr) (xss : List (List Int)), vs = [.ref o, .ref l] ∧ SqT K H o (ord.map V.int) ∧ ord.length ≤ 1000 ∧ (∀ w ∈ ord, 0 ≤ w ∧ w < ord.length) ∧
  SqL K H l (ps.map V.ref) ∧ ps.length ≤ 1000 ∧ Tups H ps xss ∧ (∀ x ∈ xss, x.length ≤ 1000) ∧
  (xss.length = ord.length → (lens xss).sum ≤ 60 → ∀ (t : Addr) (H' : Hp), H t = none → H' t = some (.tup ((togF ord xss).map V.int)) → Same H H' → Q (.ref t) H') ∧
  (¬ (xss.length = ord.length ∧ (lens xss).sum ≤ 60) → ∀ H', Same H H' → E (.ref C) none H')
theorem pass0V {P : Program} {w : World} {X : Cx} : Passes (CXV P w) X E0 := fun _ _ _ _ _ _ _ ⟨_, _, _, _, _, _, _, _, _, _, _, _, _, h⟩ => h.elim
end Tn
namespace Tn
open PySem L2
theorem boot_sum : bootBuiltins "sum" = some (.builtin "sum") := by decide +kernel
theorem boot_max : bootBuiltins "max" = some (.builtin "max") := by decide +kernel
theorem boot_min : bootBuiltins "min" = some (.builtin "min") := by decide +kernel
def rLen (K : PySem.W.Frag) : List V → Hp → VK → Prop := fun xs H Q => ∃ p ys, xs = [.ref p] ∧ (SqL K H p ys ∨ SqT K H p ys) ∧ Q (.int ys.length) H
end Tn
namespace Tn
open PySem L2
theorem line_mil {n : Nat} (h : n ≤ 10000000) : n ≤ sizeLine := by rw [sizeLine_eq]; omega
end Tn
namespace Tn
open PySem L2
def spSizes (K : PySem.W.Frag) : Sp := fun vs H Q _ => ∃ (a : Addr) (ns : List Int) (m : Nat), vs = [.ref a, .int (m : Int)] ∧ SqL K H a (ns.map V.int) ∧ ns.length ≤ 63 ∧ 1 ≤ m ∧ m ≤ 60 ∧
  ∀ (l : Addr) (sz : List Int) (H' : Hp), H l = none → H' l = some (.lst (sz.map V.int)) → Same H H' → sz.length = m → (∀ z ∈ sz, 1 ≤ z) → sz.sum ≤ 60 → Q (.ref l) H'
end Tn
namespace Tn
open PySem L2
def spDue (K : PySem.W.Frag) : Sp := fun vs H Q _ => ∃ (o l : Addr) (ord : List Int) (ps : List Addr) (xss : List (List Int)), vs = [.ref o, .ref l] ∧ SqT K H o (ord.map V.int) ∧ ord.length ≤ 1000 ∧ (∀ w ∈ ord, 0 ≤ w ∧ w < ord.length) ∧
  SqL K H l (ps.map V.ref) ∧ Tups H ps xss ∧ xss.length = ord.length ∧ (∀ x ∈ xss, x.length ≤ 1000) ∧ ∀ (f : Addr) (H' : Hp), H f = none → H' f = some (.lst ((togF ord xss).map V.int)) → Same H H' → Q (.ref f) H'
def spRefPut (K : PySem.W.Frag) : Sp := fun vs H Q _ => ∃ (o l : Addr) (ord : List Int) (ps : List Addr) (xss : List (List Int)), vs = [.ref o, .ref l] ∧ SqT K H o (ord.map V.int) ∧ ord.length ≤ 1000 ∧ (∀ w ∈ ord, 0 ≤ w ∧ w < ord.length) ∧
  SqL K H l (ps.map V.ref) ∧ ps.length ≤ 1000 ∧ Tups H ps xss ∧ (∀ x ∈ xss, x.length ≤ 1000) ∧ ¬ (xss.length = ord.length ∧ (lens xss).sum ≤ 60) ∧ ∀ H', Same H H' → Q (.bl true) H'
structure Excs (K : PySem.W.Frag) (T C o1 o2 o3 o4 r1 r2 r3 : Addr) : Prop where
  xC : PySem.W.excIn K C bmVE "ValueError.__new__" = true
  tx : ExcTxt K C
  ct : CatTxt K T
  mr : PySem.W.mroIn K C (.ref T) = some true
  ve : PySem.W.kitOne K (.ref C) (.type "ValueError") = some true
  a4 : PySem.W.kitAny K (.ref C) [.ref o1, .ref o2, .ref o3, .ref o4] = some false
  a3 : PySem.W.kitAny K (.ref C) [.ref r1, .ref r2, .ref r3] = some false
end Tn
namespace Tn
open PySem L2
theorem cut_head {α : Type} (f : α → V) (ps : List α) (k : Nat) (h : k ≤ ps.length) : cutV (ps.map f) none (some (k : Int)) = (ps.take k).map f := by
  unfold cutV
  rw [HT.sIx_none, HT.sIx_nat, List.drop_zero, List.length_map, Nat.min_eq_left h, Nat.sub_zero, List.map_take]
theorem cut_tail {α : Type} (f : α → V) (ps : List α) (k : Nat) (h : k ≤ ps.length) : cutV (ps.map f) (some (k : Int)) none = (ps.drop k).map f := by
  unfold cutV
  rw [HT.sIx_none, HT.sIx_nat, List.length_map, Nat.min_eq_left h, List.take_of_length_le (by rw [List.length_drop, List.length_map]; exact Nat.le_refl _), List.map_drop]
theorem gname_go {i : Nat} {v : V} {σ : L2.St} {H : Hp} {Q : L2.St → Hp → Prop} (h : Q (σ.set i (some v)) H) : gName i v σ H Q := h
theorem seq_if {c : TT} {t u r : TS} {D : Ends} {σ : L2.St} {H : Hp} (C : L2.St → Hp → Prop) (hrest : ∀ σ' Hx, C σ' Hx → r D σ' Hx) (hmain : (∀ σ' Hx, C σ' Hx → r D σ' Hx) → tIfS c t u { D with nx := r D } σ H) : tSeq (tIfS c t u) r D σ H := hmain hrest
end Tn
namespace Tn
open PySem L2
theorem Tups.updL {H : Hp} {op : Addr} {us : List V} {o : HO} (e : H op = some (.lst us)) : ∀ {ps : List Addr} {xss : List (List Int)}, Tups H ps xss → Tups (upd H op o) ps xss
  | _, _, .nil => .nil
  | _, _, .cons q t => .cons (by rw [upd_ne (ne_of q e (by intro z; cases z))]; exact q) (Tups.updL e t)
end Tn
namespace Tn
open PySem PySem.Spec PyProof.Rows
theorem tupIter_atL {g g' : Heap} {it tp : Addr} {k : Nat} (p : g.IsListIter it tp k) (e : ∀ o, g.get? it = some o → g'.get? it = some o) : g'.IsListIter it tp k := let ⟨o, ho, r⟩ := p; ⟨o, e _ ho, r⟩
theorem tup_atL {g g' : Heap} {tp : Addr} {xs : Array Value} (p : g.IsList tp xs) (e : ∀ o, g.get? tp = some o → g'.get? tp = some o) : g'.IsList tp xs := let ⟨o, ho, r⟩ := p; ⟨o, e _ ho, r⟩
theorem enum_newTL (tp : Addr) (xs : Array Value) (n : Nat) (dct : Option Addr) (sl : Array (Option Value)) :
    Meets (Builtin.«enumerate.__new__» ⟨[.type "enumerate", .ref tp], []⟩) (fun _ R s => s.heap.get? tp = some { cls := .type "list", dict := dct, data := .seq xs n, slots := sl } ∧
      R (.ok (.ret (.ref (s.heap.push { cls := .type "list_iterator", data := .fields #[.ref tp, .int 0 0] }).objs.size)))
        { s with heap := (s.heap.push { cls := .type "list_iterator", data := .fields #[.ref tp, .int 0 0] }).push { cls := .type "enumerate", data := .fields #[.none, .bool false, .ref s.heap.objs.size, rawInt 0, .none, .none] } }) :=
  .of_wp fun prog w A R s h => by
    obtain ⟨hp, g, d, tk, os⟩ := s; obtain ⟨q1, q2⟩ := h
    have hsub := sub_enumerate
    have qT : Heap.IsList (Shared.heap ⟨hp, g, d, tk, os⟩) tp xs := ⟨_, q1, rfl, n, rfl⟩
    wp_walk using AutoSeq1.wpAny_loadPart' q1
    refine wpAny_stack_any fun st => wpAny_pure ?_
    split
    · rename_i c _ _ _ _ _
      cases (c == Value.type "enumerate")
      · wp_walk using AutoSeq1.wpAny_loadPart' q1, wpAny_pyIter_list qT
        exact ⟨_, rfl, q2⟩
      · wp_walk using AutoSeq1.wpAny_loadPart' q1, wpAny_pyIter_list qT
        exact ⟨_, rfl, q2⟩
    · wp_walk using AutoSeq1.wpAny_loadPart' q1, wpAny_pyIter_list qT
      exact ⟨_, rfl, q2⟩
theorem call_enumTL {prog : Program} {w : World} {A : Around} {E : Value → Shared → Prop} {s : Shared} {tp : Addr} {xs : Array Value} {Q : Value → Shared → Prop} (hT : s.heap.IsList tp xs)
    (h : ∀ g, IsEnum g (s.heap.objs.size + 1) s.heap.objs.size 0 .none → g.IsListIter s.heap.objs.size tp 0 → g.objs.size = s.heap.objs.size + 2 → (∀ b o, s.heap.get? b = some o → g.get? b = some o) → Q (.ref (s.heap.objs.size + 1)) { s with heap := g }) :
    wpAny (model prog w) A (call (.type "enumerate") [.ref tp]) Q E s := by
  obtain ⟨⟨c, dct, dt, sl⟩, q1, qc, n, qd⟩ := hT
  replace qc : c = .type "list" := qc
  replace qd : dt = .seq xs n := qd
  subst qc qd
  refine callType_new F.called_enumerate (by decide) (F.typeCall_enumerate_1 _) (F.newCall_enumerate_1 _) (fun obj => F.args_object_init_2 obj _) F.entry_enumerate_new (enum_newTL tp xs n dct sl) ⟨q1, ?_⟩
  have hz : (s.heap.push { cls := .type "list_iterator", data := .fields #[.ref tp, .int 0 0] }).objs.size = s.heap.objs.size + 1 := Heap.size_push ..
  show _ ∧ _
  rw [hz]
  have he : IsEnum ((s.heap.push { cls := .type "list_iterator", data := .fields #[.ref tp, .int 0 0] }).push
      { cls := .type "enumerate", data := .fields #[.none, .bool false, .ref s.heap.objs.size, rawInt 0, .none, .none] }) (s.heap.objs.size + 1) s.heap.objs.size 0 .none := by
    have z := Heap.get?_push_size (s.heap.push { cls := .type "list_iterator", data := .fields #[.ref tp, .int 0 0] }) (o := { cls := .type "enumerate", data := .fields #[.none, .bool false, .ref s.heap.objs.size, rawInt 0, .none, .none] }) rfl
    rw [hz] at z; exact z
  exact ⟨⟨_, he, rfl⟩, h _ he ⟨_, Heap.get?_push_of_some _ (Heap.get?_push_size _ rfl), rfl, rfl⟩ (by rw [Heap.size_push, hz]) fun b o x => Heap.get?_push_of_some _ (Heap.get?_push_of_some _ x)⟩
end Tn
namespace L2
open PySem PySem.Spec PyProof.Rows
def IteL (K : PySem.W.Frag) (a : Addr) : It :=
  ⟨fun i H => ∃ xs x, SqL K H a xs ∧ xs[i]? = some x, fun i H x H' => ∃ p y, H p = none ∧ x = .ref p ∧ (∀ xs, SqL K H a xs → xs[i]? = some y) ∧ H' = upd H p (.tup [.int i, y]), fun i H => ∃ xs, SqL K H a xs ∧ xs.length = i⟩
section
variable {X : Cx}
theorem turn_enumTL {P : Program} {w : World} {K : PySem.W.Frag} {elts : List Expr} {k : Nat} {tp : Pos} (a it e : Addr) (hei : e ≠ it) :
    Turn P w K (.Tuple elts k tp) (IteL K a) [e, it] e (fun i h => (∃ old, IsEnum h e it ((i : Nat) : Int) old) ∧ h.IsListIter it a i) where
  mem := by simp
  obj := fun i h st b hb => by
    rcases List.mem_cons.mp hb with z | z
    · subst z
      obtain ⟨⟨old, q⟩, _⟩ := st
      exact ⟨_, q, fun v z => by
        have z' : Data.fields _ = Data.cell v := z
        cases z'⟩
    · have z : b = it := by simpa using z
      subst z
      obtain ⟨_, o, q, _, d⟩ := st
      exact ⟨o, q, fun v z => by rw [d] at z; cases z⟩
  keep := fun i h h' st kp => ⟨let ⟨old, q⟩ := st.1; ⟨old, kp e (by simp) _ q⟩, Tn.tupIter_atL st.2 fun o q => kp it (by simp) o q⟩
  item := by
    intro X hP hw hK hc i pins s σ H E I hf st hg
    subst hP hw hK
    obtain ⟨xs, x, hq, hx⟩ := hg
    obtain ⟨its, rv, p, hz⟩ := I.list hq
    obtain ⟨u, hu, ru⟩ := rv.get hx
    obtain ⟨⟨old, he⟩, hit⟩ := st
    have pt : s.heap.IsList a its.toArray := p.isList
    have hil : i < its.toArray.size := by
      have := (List.getElem?_eq_some_iff.mp hu).1
      simpa using this
    have hai : a ≠ it := by
      rintro rfl
      obtain ⟨o, e1, c1, _⟩ := hit
      obtain ⟨o', e2, c2, _⟩ := pt
      rw [e1] at e2; cases e2; rw [c1] at c2; exact absurd c2 (by decide +kernel)
    have hae : e ∉ [it, a] := by
      intro z
      rcases List.mem_cons.mp z with z | z
      · exact hei z
      · have z : e = a := by simpa using z
        subst z
        obtain ⟨o', e2, c2, _⟩ := pt
        rw [he] at e2; cases e2; exact absurd (show Value.type "enumerate" = Value.type "list" from c2) (by decide +kernel)
    refine wpAny_pyNext_enum_itemD (n := its.toArray.size) (Draws.list (A := X.A.in1) (I.ok.hd hc) it a hai its.toArray) he ⟨hit, pt⟩ hil hei hae fun v h' tk hv hout hst htup hsz hkp => ?_
    refine ⟨_, rfl, wpAny_letOwnedTupleGo_enum (s := { s with heap := h', toks := tk + 1 }) hout fun h2 he2 hs2 => ?_⟩
    obtain ⟨e0, e1, e2, e3, e4, e5⟩ := hf e (by simp)
    obtain ⟨i0, i1, i2, i3, i4, i5⟩ := hf it (by simp)
    have hnew : H s.heap.objs.size = none := I.hok.fresh (Nat.le_refl _)
    have helt : e < s.heap.objs.size := Heap.lt_size he
    have hitlt : it < s.heap.objs.size := by obtain ⟨o, q, _⟩ := hit; exact Heap.lt_size q
    have vu : v = u := by
      have : its.toArray[i]? = some u := by simpa using hu
      exact Option.some.inj (hv.symm.trans this)
    subst vu
    have hs2' : Heap.SameBut e h' h2 := hs2
    have up : ∀ b o, b ≠ e → b ≠ it → s.heap.get? b = some o → h2.get? b = some o := fun b o z1 z2 q => (hs2'.2 b z1).trans (hkp b o z1 z2 q)
    have htup2 : h2.get? s.heap.objs.size = some { cls := .type "tuple", data := .seq #[.int i tk, v] } := (hs2'.2 _ (Nat.ne_of_gt helt)).trans htup
    have ne : ∀ c u', H c = some u' → c ≠ e ∧ c ≠ it := fun c u' z => ⟨(fun y => by rw [y, e0] at z; cases z), (fun y => by rw [y, i0] at z; cases z)⟩
    have I1 : Inv X pins σ (upd H s.heap.objs.size (.tup [.int i, x])) { s with heap := h2, toks := tk + 1 } := by
      refine I.step (g' := s.gens) (d' := s.drawn) (ch := [e, it]) (fun b hb => ?_) (fun b o _ _ hb q _ => up b o (fun z => hb (by simp [z])) (fun z => hb (by simp [z])) q)
        (fun b o _ _ hb q _ => ⟨o.slots, up b o (fun z => hb (by simp [z])) (fun z => hb (by simp [z])) q⟩) (fun b o _ q n => by rw [upd_ne (Nat.ne_of_lt (Heap.lt_size q))]; exact n)
        (fun b o hb q => ⟨o, up b o (fun z => hb (by simp [z])) (fun z => hb (by simp [z])) q⟩) (fun b ys q => by rw [upd_ne (ne_of_none q hnew)]; exact q) (fun b o ys q => by rw [upd_ne (ne_of_none q hnew)]; exact q)
        (fun b ps q => ⟨#[], by rw [upd_ne (ne_of_none q hnew), q]; simp⟩) (fun m hm => ?_) (fun b ob q => ?_) I.bare
      · rcases List.mem_cons.mp hb with z | z
        · subst z; exact ⟨e3, e1, e4, e5⟩
        · have z : b = it := by simpa using z
          subst z; exact ⟨i3, i1, i4, i5⟩
      · obtain ⟨o, es, ep, ho, r⟩ := hm
        exact ⟨o, es, ep, up _ o (Ne.symm e1) (Ne.symm i1) ho, r⟩
      · by_cases hb : b = s.heap.objs.size
        · subst hb
          rw [upd_same] at q; cases q
          exact ⟨(by show 2 ≤ sizeLine; decide), [.int i tk, v], .cons ⟨_, rfl⟩ (.cons ru .nil), ⟨_, htup2, rfl, ⟨_, rfl⟩, rfl⟩⟩
        · rw [upd_ne hb] at q
          refine (I.hok b ob q).stay (fun c v' hc' q' => ?_) (fun c z => by rw [upd_ne (ne_of_none z hnew)]; exact z) fun c ys z => by rw [upd_ne (ne_of_none z hnew)]; exact z
          have hc2 : c ≠ e ∧ c ≠ it := by
            rcases hc' with z | z
            · subst z; exact ne _ _ q
            · exact ne _ _ z
          exact up c v' hc2.1 hc2.2 q'
    refine ⟨.ref s.heap.objs.size, _, I1, rfl, ⟨s.heap.objs.size, x, hnew, rfl, fun ys hy => by rw [I.list_inj hy hq]; exact hx, rfl⟩, ⟨⟨v, by simpa using he2⟩, Tn.tupIter_atL hst.1 fun o q => (hs2'.2 it (Ne.symm hei)).trans q⟩, fun b hb => ?_⟩
    rw [upd_ne (by
      rcases List.mem_cons.mp hb with z | z
      · subst z; exact Nat.ne_of_lt helt
      · have z : b = it := by simpa using z
        subst z; exact Nat.ne_of_lt hitlt)]
    exact (hf b hb).1
  done := by
    intro X hP hw hK hc i pins s σ H E I hf st hg
    subst hP hw hK
    obtain ⟨xs, hq, hx⟩ := hg
    obtain ⟨its, rv, p, hz⟩ := I.list hq
    obtain ⟨⟨old, he⟩, hit⟩ := st
    have hl := rv.length
    have pt : s.heap.IsList a its.toArray := p.isList
    have hai : a ≠ it := by
      rintro rfl
      obtain ⟨o, e1, c1, _⟩ := hit
      obtain ⟨o', e2, c2, _⟩ := pt
      rw [e1] at e2; cases e2; rw [c1] at c2; exact absurd c2 (by decide +kernel)
    have hi : i = its.toArray.size := by simp; omega
    obtain ⟨i0, i1, i2, i3, i4, i5⟩ := hf it (by simp)
    refine wpAny_pyNext_enum_endD (Draws.list (A := X.A.in1) (I.ok.hd hc) it a hai its.toArray) he ⟨by rw [← hi]; exact hit, pt⟩ fun h' hx => ⟨rfl, I.turned (t' := s.toks) (fun b o hb q => hx b o hb q) i0 i1 i3 i4 i5⟩
  self := fun _ i s Q E st h => by
    obtain ⟨⟨old, q⟩, _⟩ := st
    exact wpAny_pyIter_enum q h
def iEnumL (K : PySem.W.Frag) (ta : TA) : TI := fun σ H R => ta σ H fun vs H1 => ∃ a, vs = [.ref a] ∧ (∃ xs, SqL K H1 a xs) ∧ R (IteL K a) H1
theorem pi_enumTL {e : Expr} {ta : TA} {p pos tp : Pos} {elts : List Expr} {k : Nat} (hg : Gl X "enumerate") (hm : X.mg "enumerate" = none) (ha : PA X [e] ta) (hs : starEach [e] X.env = [(false, eval e X.env)] := by rfl) :
    PI X (.Tuple elts k tp) (.Call (.Name "enumerate" p) [e] [] pos) (iEnumL X.K ta) := by
  intro pins s σ H R I h
  refine Call_ (ld_blt I hg hm (by decide +kernel : bootBuiltins "enumerate" = some (.type "enumerate")) (PyProof.Rows.callWith_type1 (thn (ha pos pins s σ H _ I h) fun us s1 ⟨vs, H1, I1, r1, q1⟩ => ?_) hs rfl))
  obtain ⟨a, rfl, ⟨xs, hq⟩, q⟩ := q1
  obtain ⟨u, rfl, rx⟩ := vals1 r1
  cases rx
  obtain ⟨its, rv, pl, _⟩ := I1.list hq
  refine Tn.call_enumTL pl.isList fun g he hit hsz kp => ?_
  refine wpAny_pyIter_enum (s := { s1 with heap := g }) he ?_
  have I2 : Inv X pins σ H1 { s1 with heap := g } := I1.kept (t' := s1.toks) kp
  have fr : ∀ b, s1.heap.objs.size ≤ b → FpOk X pins H1 b := fun b hb => I1.fpOk hb (I1.hok.fresh hb)
  refine ⟨_, [s1.heap.objs.size + 1, s1.heap.objs.size], _, IteL X.K a, H1, rfl, I2, turn_enumTL a s1.heap.objs.size (s1.heap.objs.size + 1) (Nat.succ_ne_self _), ⟨⟨.none, he⟩, hit⟩, fun b hb => ?_, q⟩
  rcases List.mem_cons.mp hb with z | z
  · rw [z]; exact fr _ (Nat.le_succ _)
  · have z : b = s1.heap.objs.size := by simpa using z
    rw [z]; exact fr _ (Nat.le_refl _)
theorem for_enumL {K : PySem.W.Frag} {a : Addr} {xs : List V} {g : TG} {tb : TS} {D : Ends} {σ : St} {H : Hp} (Pv : Nat → St → Hp → Prop) (h0 : Pv 0 σ H) (hl : ∀ i σ H, i ≤ xs.length → Pv i σ H → SqL K H a xs)
    (hs : ∀ i x σ H p, xs[i]? = some x → Pv i σ H → H p = none → g (.ref p) σ (upd H p (.tup [.int i, x])) fun σ2 H2 => tb { D with nx := Pv (i + 1), ct := Pv (i + 1), bk := D.nx } σ2 H2) (hd : ∀ σ H, Pv xs.length σ H → D.nx σ H) :
    ∃ W : Nat → Nat → St → Hp → Prop, (∃ m, W 0 m σ H) ∧ ∀ i m σ H, W i m σ H →
      ((IteL K a).stop i H ∧ D.nx σ H) ∨ ((IteL K a).go i H ∧ ∃ N : St → Hp → Prop, (∀ σ' H', N σ' H' → ∃ m', m' < m ∧ W (i + 1) m' σ' H') ∧ ∀ x H', (IteL K a).yld i H x H' → g x σ H' fun σ2 H2 => tb { D with nx := N, ct := N, bk := D.nx } σ2 H2) := by
  refine ⟨fun i m σ H => m = xs.length - i ∧ i ≤ xs.length ∧ Pv i σ H, ⟨xs.length, by simp, Nat.zero_le _, h0⟩, ?_⟩
  rintro i m σ H ⟨rfl, hi, p⟩
  have q := hl i σ H hi p
  by_cases hlt : i < xs.length
  · refine .inr ⟨⟨xs, xs[i], q, by simp [hlt]⟩, Pv (i + 1), fun σ' H' p' => ⟨xs.length - (i + 1), by omega, rfl, hlt, p'⟩, fun x H' y => ?_⟩
    obtain ⟨pp, yy, hp, rfl, hy, rfl⟩ := y
    exact hs i yy σ H pp (hy xs q) p hp
  · have e : i = xs.length := by omega
    subst e
    exact .inl ⟨⟨xs, q, rfl⟩, hd σ H p⟩
end
end L2
namespace L2
open PySem PySem.Spec PyProof.Rows
section
variable {X : Cx}
theorem call_sortedL : CallR X (.builtin "sorted") (fun xs H Q => ∃ (p : Addr) (ns : List Int), xs = [.ref p] ∧ SqL X.K H p (ns.map V.int) ∧ ns.length < 64 ∧
    ∀ (ns' : List Int) (l : Addr), ns'.Perm ns → ns'.Pairwise (· ≤ ·) → H l = none → Q (.ref l) (upd H l (.lst (ns'.map V.int)))) := by
  intro pins s σ H xs us Q I r h
  obtain ⟨p, ns, rfl, hp, hn, q⟩ := h
  obtain ⟨u, rfl, rx⟩ := vals1 r
  cases rx
  obtain ⟨its, rv, pl, hz⟩ := I.list hp
  have hlen := rv.length
  rw [List.length_map] at hlen hz
  refine sorted_ints pl.isList (intsAre_of rv) (by omega) fun out ns' a1 a2 a3 => ?_
  obtain ⟨e, he⟩ := sortedAll_at s.heap its out
  have kp : ∀ b o, s.heap.get? b = some o → (sortedAll s.heap its out).get? b = some o := fun b o z => sortedAll_old z
  have hnew : s.heap.objs.size ≤ s.heap.objs.size + 1 := Nat.le_succ _
  refine ⟨.ref (s.heap.objs.size + 1), _, I.laid (t' := s.toks) (o := .lst (ns'.map V.int)) kp hnew ⟨by rw [List.length_map, a2.length_eq]; exact hz, out.toList, e, vals_ints a1, ?_⟩, rfl, q ns' _ a2 a3 (I.hok.fresh hnew)⟩
  simpa [seqObj] using he
end
theorem comp_invF {J : It} {n : Nat} {tc : TT} {te : TE} {js : List Nat} {σ : St} {H1 : Hp} {Q : VK} {D : Addr} (P : Nat → List V → Hp → Prop) (h0 : P 0 [] (upd H1 D (.lst []))) (hD : ∀ i acc H', P i acc H' → H' D = some (.lst acc) ∧ acc.length ≤ i) (hn : n ≤ sizeLine)
    (hgo : ∀ i acc H', i < n → P i acc H' → J.go i H') (hst : ∀ acc H', P n acc H' → J.stop n H' ∧ Q (.ref D) H')
    (hstep : ∀ i acc H' y H2 (R0 : Hp → Prop) (R1 : VK), i < n → P i acc H' → J.yld i H' y H2 → (∀ H4, P (i + 1) acc H4 → R0 H4) → (∀ z H5, H5 D = some (.lst acc) → P (i + 1) (acc ++ [z]) (upd H5 D (.lst (acc ++ [z]))) → R1 z H5) →
      tc (some y :: js.map fun j => (σ[j]?).getD none) H2 fun b H4 => if b = true then te (some y :: js.map fun j => (σ[j]?).getD none) H4 R1 else R0 H4) :
    CompW J (gName 0) tc te js σ H1 Q D := by
  refine ⟨fun i m acc σ' H' => m = n - i ∧ i ≤ n ∧ P i acc H' ∧ ∃ v, σ' = v :: js.map fun j => (σ[j]?).getD none, ⟨n, by simp, Nat.zero_le _, h0, none, rfl⟩, ?_⟩
  rintro i m acc σ' H' ⟨rfl, hi, hP, v, rfl⟩
  refine ⟨(hD i acc H' hP).1, ?_⟩
  by_cases hlt : i < n
  · refine .inr ⟨hgo i acc H' hlt hP, by have := (hD i acc H' hP).2; omega, fun y H2 hy => ?_⟩
    show tc (some y :: js.map fun j => (σ[j]?).getD none) _ _
    exact hstep i acc H' y H2 _ _ hlt hP hy (fun H4 e => ⟨n - (i + 1), by omega, rfl, hlt, e, _, rfl⟩) fun z H5 e1 e2 => ⟨e1, n - (i + 1), by omega, rfl, hlt, e2, _, rfl⟩
  · have e : i = n := by omega
    subst e
    exact .inl (hst acc H' hP)
end L2
namespace Tn
open PySem L2
def NotW (K : PySem.W.Frag) (H : Hp) (x : V) : Prop := ∃ t, TyOf K H x t ∧ (PySem.W.kitOne K t (.type "int") = some false ∨ (PySem.W.kitOne K t (.type "int") = some true ∧ PySem.W.kitOne K t (.type "bool") = some true))
def Plain (K : PySem.W.Frag) (H : Hp) (x : V) : Prop := (∃ i, x = .int i) ∨ (NotW K H x ∧ ∀ i, x ≠ .int i)
theorem Same.ty {K : PySem.W.Frag} {H H' : Hp} (s : Same H H') {x : V} {t : Value} (h : TyOf K H x t) : TyOf K H' x t := by
  cases h with
  | non => exact .non
  | bl x => exact .bl x
  | int i => exact .int i
  | str x => exact .str x
  | flt x => exact .flt x
  | lst e => exact .lst (s _ _ e)
  | frz e => exact .frz (s _ _ e)
  | tup e => exact .tup (s _ _ e)
  | dK e => exact .dK (s _ _ e)
  | dT e => exact .dT (s _ _ e)
  | ins e c a b d f => exact .ins (s _ _ e) c a b d f
theorem NotW.mono {K : PySem.W.Frag} {H H' : Hp} (s : Same H H') {x : V} (h : NotW K H x) : NotW K H' x := let ⟨t, ty, k⟩ := h; ⟨t, Same.ty s ty, k⟩
theorem Plain.mono {K : PySem.W.Frag} {H H' : Hp} (s : Same H H') {x : V} (h : Plain K H x) : Plain K H' x := h.imp id fun z => ⟨z.1.mono s, z.2⟩
def spWhole (K : PySem.W.Frag) : Sp := fun vs H Q _ => ∃ x, vs = [x] ∧ (((∃ i, x = .int i) ∧ Q (.bl true) H) ∨ (NotW K H x ∧ Q (.bl false) H))
def diffG (b : Int) : List Int → List V → Bool
  | _, [] => true
  | met, .int i :: r => if 0 ≤ i ∧ i < b ∧ i ∉ met then diffG b (met ++ [i]) r else false
  | _, _ :: _ => false
def spDiff (K : PySem.W.Frag) : Sp := fun vs H Q _ => ∃ (l : Addr) (xs : List V) (b : Int), vs = [.ref l, .int b] ∧ SqL K H l xs ∧ xs.length ≤ 1000 ∧ (∀ x ∈ xs, Plain K H x) ∧ ∀ H', Same H H' → Q (.bl (diffG b [] xs)) H'
theorem diffG_iff {b : Int} : ∀ {xs : List V} {met : List Int}, diffG b met xs = true ↔ ∃ us : List Int, xs = us.map V.int ∧ us.Nodup ∧ (∀ u ∈ us, 0 ≤ u ∧ u < b) ∧ ∀ u ∈ us, u ∉ met
  | [], met => by
    constructor
    · intro _; exact ⟨[], rfl, List.nodup_nil, (fun _ h => nomatch h), fun _ h => nomatch h⟩
    · intro _; rfl
  | .int i :: r, met => by
    show (if 0 ≤ i ∧ i < b ∧ i ∉ met then diffG b (met ++ [i]) r else false) = true ↔ _
    constructor
    · intro h
      by_cases hc : 0 ≤ i ∧ i < b ∧ i ∉ met
      · rw [if_pos hc] at h
        obtain ⟨us, rfl, nd, rg, nm⟩ := diffG_iff.mp h
        refine ⟨i :: us, rfl, List.nodup_cons.mpr ⟨fun hi => nm i hi (by simp), nd⟩, fun u hu => ?_, fun u hu => ?_⟩
        · rcases List.mem_cons.mp hu with rfl | hu
          · exact ⟨hc.1, hc.2.1⟩
          · exact rg u hu
        · rcases List.mem_cons.mp hu with rfl | hu
          · exact hc.2.2
          · exact fun z => nm u hu (by simp [z])
      · rw [if_neg hc] at h; cases h
    · rintro ⟨us, e, nd, rg, nm⟩
      cases us with
      | nil => cases e
      | cons u us =>
        injection e with e1 e2
        injection e1 with e1
        subst e1 e2
        obtain ⟨n1, n2⟩ := List.nodup_cons.mp nd
        rw [if_pos ⟨(rg _ List.mem_cons_self).1, (rg _ List.mem_cons_self).2, nm _ List.mem_cons_self⟩]
        refine diffG_iff.mpr ⟨us, rfl, n2, fun v hv => rg v (List.mem_cons_of_mem _ hv), fun v hv z => ?_⟩
        rcases List.mem_append.mp z with z | z
        · exact nm v (List.mem_cons_of_mem _ hv) z
        · have : v = i := by simpa using z
          exact n1 (this ▸ hv)
  | .non :: r, met => ⟨(fun h => nomatch h), fun ⟨us, e, _⟩ => by cases us <;> cases e⟩
  | .bl _ :: r, met => ⟨(fun h => nomatch h), fun ⟨us, e, _⟩ => by cases us <;> cases e⟩
  | .str _ :: r, met => ⟨(fun h => nomatch h), fun ⟨us, e, _⟩ => by cases us <;> cases e⟩
  | .byt _ :: r, met => ⟨(fun h => nomatch h), fun ⟨us, e, _⟩ => by cases us <;> cases e⟩
  | .flt _ :: r, met => ⟨(fun h => nomatch h), fun ⟨us, e, _⟩ => by cases us <;> cases e⟩
  | .ref _ :: r, met => ⟨(fun h => nomatch h), fun ⟨us, e, _⟩ => by cases us <;> cases e⟩
  | .ty _ :: r, met => ⟨(fun h => nomatch h), fun ⟨us, e, _⟩ => by cases us <;> cases e⟩
theorem diffG_not {b : Int} {met : List Int} {x : V} {r : List V} (h : ∀ i, x ≠ .int i) : diffG b met (x :: r) = false := by
  cases x with
  | int i => exact absurd rfl (h i)
  | _ => rfl
theorem diff_ok {b : Int} {us : List Int} (nd : us.Nodup) (rg : ∀ u ∈ us, 0 ≤ u ∧ u < b) : diffG b [] (us.map V.int) = true := diffG_iff.mpr ⟨us, rfl, nd, rg, fun _ _ z => nomatch z⟩
theorem met_val (ms : List Int) (z : Int) : (valV (ms.map fun n => ((Sum.inl n : Key), V.bl true)) (Sum.inl z)).isSome = decide (z ∈ ms) := by
  induction ms with
  | nil => rfl
  | cons n r ih =>
    rw [List.map_cons]
    by_cases h : n = z
    · rw [valV_pos (by rw [h])]
      simp [h]
    · rw [valV_neg (by intro e; injection e with e; exact h e), ih]
      have : ¬ z = n := fun e => h e.symm
      simp [this]
def rank (ws : List Int) (w : Int) : Nat := (ws.filter fun v => decide (v < w)).length
def leftF (ord ws : List Int) : List Int := (ord.filter fun w => decide (w ∈ ws)).map fun w => (rank ws w : Int)
theorem strict_rank : ∀ {l : List Int} {i : Nat} {w : Int}, l.Pairwise (· < ·) → l[i]? = some w → rank l w = i
  | [], _, _, _, h => nomatch h
  | a :: l, 0, w, hp, h => by
    have : a = w := by simpa using h
    subst this
    unfold rank
    rw [List.filter_cons_of_neg (by simp)]
    have : l.filter (fun v => decide (v < a)) = [] := by
      rw [List.filter_eq_nil_iff]
      intro v hv
      have := (List.pairwise_cons.mp hp).1 v hv
      simp; omega
    rw [this]; rfl
  | a :: l, i + 1, w, hp, h => by
    have hw : l[i]? = some w := by simpa using h
    have ih := strict_rank (List.pairwise_cons.mp hp).2 hw
    have ha := (List.pairwise_cons.mp hp).1 w (List.mem_of_getElem? hw)
    unfold rank at ih ⊢
    rw [List.filter_cons_of_pos (by simpa using ha), List.length_cons, ih]
theorem rank_perm {l m : List Int} (h : l.Perm m) (w : Int) : rank l w = rank m w := (h.filter _).length_eq
theorem strict_of {l : List Int} (h : l.Pairwise (· ≤ ·)) (nd : l.Nodup) : l.Pairwise (· < ·) := by
  have := List.Pairwise.and h nd
  exact this.imp fun ⟨a, b⟩ => by omega
theorem sorted_rank {ws ws' : List Int} {i : Nat} {w : Int} (hp : ws'.Perm ws) (hs : ws'.Pairwise (· ≤ ·)) (nd : ws.Nodup) (h : ws'[i]? = some w) : rank ws w = i := by
  rw [← rank_perm hp]
  exact strict_rank (strict_of hs (hp.nodup_iff.mpr nd)) h
theorem upto_strict (n : Nat) : (upto n).Pairwise (· < ·) := by
  unfold upto
  rw [List.pairwise_map]
  exact (List.pairwise_lt_range (n := n)).imp fun h => by omega
theorem leftF_len (ord ws : List Int) : (leftF ord ws).length ≤ ord.length := by
  unfold leftF
  rw [List.length_map]
  exact List.length_filter_le _ _
def spLeft (K : PySem.W.Frag) (C : Addr) : Sp := fun vs H Q E => ∃ (o l : Addr) (ord : List Int) (xs : List V), vs = [.ref o, .ref l] ∧ SqT K H o (ord.map V.int) ∧ ord.length ≤ 1000 ∧ SqL K H l xs ∧ xs.length ≤ 1000 ∧ (∀ x ∈ xs, Plain K H x) ∧
  (∀ ws : List Int, xs = ws.map V.int → ws ≠ [] → ws.length < 64 → ws.Nodup → (∀ w ∈ ws, 0 ≤ w ∧ w < ord.length) → ∀ (t : Addr) (H' : Hp), H t = none → H' t = some (.tup ((leftF ord ws).map V.int)) → Same H H' → Q (.ref t) H') ∧
  (xs = [] ∨ (diffG ord.length [] xs = true → xs.length < 64)) ∧ (xs = [] ∨ diffG ord.length [] xs = false → ∀ H', Same H H' → E (.ref C) none H')
def spRefLeft (K : PySem.W.Frag) : Sp := fun vs H Q _ => ∃ (o l : Addr) (ord : List Int) (xs : List V), vs = [.ref o, .ref l] ∧ SqT K H o (ord.map V.int) ∧ ord.length ≤ 1000 ∧ SqL K H l xs ∧ xs.length ≤ 1000 ∧ (∀ x ∈ xs, Plain K H x) ∧
  (xs = [] ∨ diffG ord.length [] xs = false) ∧ ∀ H', Same H H' → Q (.bl true) H'
theorem boot_sorted : bootBuiltins "sorted" = some (.builtin "sorted") := by decide +kernel
end Tn
namespace Tn
open PySem L2
def spSome (K : PySem.W.Frag) : Sp := fun vs H Q _ => ∃ (a o : Addr) (ns ord : List Int), vs = [.ref a, .ref o] ∧ SqL K H a (ns.map V.int) ∧ ns.length ≤ 63 ∧ SqT K H o (ord.map V.int) ∧ 1 ≤ ord.length ∧ ord.length ≤ 60 ∧
  ∀ (l : Addr) (ws : List Int) (H' : Hp), H l = none → H' l = some (.lst (ws.map V.int)) → Same H H' → ws.Nodup → (∀ w ∈ ws, 0 ≤ w ∧ w < ord.length) → 1 ≤ ws.length → ws.length ≤ ord.length → Q (.ref l) H'
def spLess (K : PySem.W.Frag) : Sp := fun vs H Q _ => ∃ (l : Addr) (ws : List Int) (z : Int), vs = [.ref l, .int z] ∧ SqL K H l (ws.map V.int) ∧ ws.length ≤ 1000 ∧ ∀ H', Same H H' → Q (.int (rank ws z : Nat)) H'
def BadV (m : Int) (ws : List Int) (v : V) : Prop := (∀ i, v ≠ .int i) ∨ ∃ i, v = .int i ∧ (i ∈ ws ∨ ¬ (0 ≤ i ∧ i < m))
def spSpoilt (K : PySem.W.Frag) : Sp := fun vs H Q _ => ∃ (l : Addr) (ws : List Int) (m c : Int), vs = [.ref l, .int m, .int c] ∧ SqL K H l (ws.map V.int) ∧ 1 ≤ ws.length ∧ ws.length ≤ 60 ∧ 0 ≤ m ∧
  ∀ (x : Addr) (xs : List V) (H' : Hp), H' x = some (.lst xs) → Same H H' → xs.length ≤ 100 → (∀ y ∈ xs, Plain K H' y) → diffG m [] xs = false → Q (.ref x) H'
theorem plain_ints (K : PySem.W.Frag) (H : Hp) (ws : List Int) : ∀ x ∈ ws.map V.int, Plain K H x := fun x h => by
  obtain ⟨i, _, rfl⟩ := List.mem_map.mp h
  exact .inl ⟨i, rfl⟩
end Tn
namespace Tn
open PySem L2
def Good (xs : List V) : Prop := 1 ≤ xs.length ∧ xs.length ≤ 60 ∧ diffG xs.length [] xs = true
def spMake (K : PySem.W.Frag) (C : Addr) : Sp := fun vs H Q E => ∃ (l : Addr) (xs : List V), vs = [.ref l] ∧ SqL K H l xs ∧ xs.length ≤ 1000 ∧ (∀ x ∈ xs, Plain K H x) ∧
  (Good xs → ∀ (t : Addr) (H' : Hp), H t = none → H' t = some (.tup xs) → Same H H' → Q (.ref t) H') ∧ (¬ Good xs → ∀ H', Same H H' → E (.ref C) none H')
def spRefMake (K : PySem.W.Frag) : Sp := fun vs H Q _ => ∃ (l : Addr) (xs : List V), vs = [.ref l] ∧ SqL K H l xs ∧ xs.length ≤ 1000 ∧ (∀ x ∈ xs, Plain K H x) ∧ ¬ Good xs ∧ ∀ H', Same H H' → Q (.bl true) H'
def spMade (K : PySem.W.Frag) : Sp := fun vs H Q _ => ∃ (l : Addr) (ws : List Int), vs = [.ref l] ∧ SqL K H l (ws.map V.int) ∧ IsOrd ws ∧ 1 ≤ ws.length ∧ ws.length ≤ 60 ∧ ∀ H', Same H H' → Q (.bl true) H'
def spSmall : Sp := fun vs H Q _ => ∃ c : Int, vs = [.int c] ∧ ∀ (l : Addr) (ws : List Int) (H' : Hp), H l = none → H' l = some (.lst (ws.map V.int)) → Same H H' → 1 ≤ ws.length → ws.length ≤ 4 → Q (.ref l) H'
def spSpoilt1 (K : PySem.W.Frag) : Sp := fun vs H Q _ => ∃ (l : Addr) (ws : List Int) (c : Int), vs = [.ref l, .int c] ∧ SqL K H l (ws.map V.int) ∧ IsOrd ws ∧ 1 ≤ ws.length ∧ ws.length ≤ 60 ∧
  ∀ (x : Addr) (xs : List V) (H' : Hp), H' x = some (.lst xs) → Same H H' → xs.length ≤ 100 → (∀ y ∈ xs, Plain K H' y) → ¬ Good xs → Q (.ref x) H'
theorem good_ord {ws : List Int} (h : IsOrd ws) (h1 : 1 ≤ ws.length) (h2 : ws.length ≤ 60) : Good (ws.map V.int) := by
  refine ⟨by rw [List.length_map]; exact h1, by rw [List.length_map]; exact h2, ?_⟩
  rw [List.length_map]
  exact diff_ok h.nodup fun u hu => h.mem.mp hu
theorem not_good_diff {xs : List V} (h : diffG xs.length [] xs = false) : ¬ Good xs := fun ⟨_, _, z⟩ => by rw [h] at z; cases z
theorem boot_ty_str : bootBuiltins "str" = some (.type "str") := by decide +kernel
theorem Plain.upd {K : PySem.W.Frag} {H : Hp} {fl : Addr} {o : HO} {v : V} (h : Plain K H v) (ne : v ≠ .ref fl) : Plain K (L2.upd H fl o) v := by
  rcases h with h | ⟨⟨t, ty, k⟩, h2⟩
  · exact .inl h
  · have go : ∀ {a : Addr} {x : HO}, (V.ref a) ≠ .ref fl → H a = some x → (L2.upd H fl o) a = some x := fun {a x} n e => by
      rw [upd_ne (fun z => n (by rw [z]))]
      exact e
    refine .inr ⟨⟨t, ?_, k⟩, h2⟩
    cases ty with
    | non => exact .non
    | bl x => exact .bl x
    | int i => exact .int i
    | str x => exact .str x
    | flt x => exact .flt x
    | lst e => exact .lst (go ne e)
    | frz e => exact .frz (go ne e)
    | tup e => exact .tup (go ne e)
    | dK e => exact .dK (go ne e)
    | dT e => exact .dT (go ne e)
    | ins e c a b d f => exact .ins (go ne e) c a b d f
end Tn
namespace L2
open PySem PySem.Spec PyProof.Rows
theorem pick_rev (its : List Value) : slicePick its.toArray none none (some (-1)) = its.reverse.toArray := by
  have hb : sliceBounds none none (some (-1)) its.toArray.size = ((its.length : Int) - 1, -1, -1) := by simp [sliceBounds]
  unfold slicePick
  rw [hb]
  congr 1
  have hr : sliceRange ((its.length : Int) - 1) (-1) (-1) = (List.range its.length).map fun k => its.length - 1 - k := by
    unfold sliceRange
    have hc : (if (-1 : Int) > 0 then (if (its.length : Int) - 1 < -1 then (-1 - ((its.length : Int) - 1) + -1 - 1) / -1 else 0) else if (its.length : Int) - 1 > -1 then ((its.length : Int) - 1 - -1 - -1 - 1) / - -1 else 0).toNat = its.length := by
      rw [if_neg (by decide)]
      by_cases h : its.length = 0
      · rw [h]; rfl
      · rw [if_pos (by omega)]
        have : ((its.length : Int) - 1 - -1 - -1 - 1) / - -1 = (its.length : Int) := by
          rw [show ((its.length : Int) - 1 - -1 - -1 - 1) = (its.length : Int) by omega]
          exact Int.ediv_one _
        rw [this]; rfl
    simp only [] at hc ⊢
    rw [hc]
    apply List.map_congr_left
    intro k hk
    have := List.mem_range.mp hk
    omega
  show List.filterMap (fun x => its.toArray[x]?) (sliceRange ((its.length : Int) - 1) (-1) (-1)) = its.reverse
  rw [hr, List.filterMap_map]
  apply List.ext_getElem?
  intro i
  have hall : List.filterMap ((fun x => its.toArray[x]?) ∘ fun k => its.length - 1 - k) (List.range its.length) = (List.range its.length).map fun k => (its[its.length - 1 - k]?).getD .none := by
    have gen : ∀ l : List Nat, (∀ k ∈ l, k < its.length) → List.filterMap ((fun x => its.toArray[x]?) ∘ fun k => its.length - 1 - k) l = l.map fun k => (its[its.length - 1 - k]?).getD .none := by
      intro l
      induction l with
      | nil => intro _; rfl
      | cons k l ih =>
        intro h
        have hk := h k List.mem_cons_self
        rw [List.map_cons, ← ih (fun j hj => h j (List.mem_cons_of_mem _ hj))]
        rw [List.filterMap_cons_some (b := its[its.length - 1 - k]'(by omega))]
        · rw [List.getElem?_eq_getElem (by omega)]
          rfl
        · simp only [Function.comp, List.getElem?_toArray]
          exact List.getElem?_eq_getElem (by omega)
    exact gen _ fun k hk => List.mem_range.mp hk
  rw [hall]
  by_cases hi : i < its.length
  · rw [List.getElem?_map, List.getElem?_range hi, List.getElem?_reverse hi]
    simp only [Option.map_some]
    rw [List.getElem?_eq_getElem (by omega)]
    rfl
  · rw [List.getElem?_eq_none (by simp; omega), List.getElem?_eq_none (by simp; omega)]
section
variable {X : Cx} {e : Expr} {te : TE} {st : Expr} {ts : TE} {pos p2 : Pos}
theorem vals_back {xs : List V} {us : List Value} (h : Vals xs us) : Vals xs.reverse us.reverse := by
  induction h with
  | nil => exact .nil
  | cons r _ ih =>
    rw [List.reverse_cons, List.reverse_cons]
    have go : ∀ {as : List V} {bs : List Value}, Vals as bs → ∀ {c : V} {d : Value}, RelV c d → Vals (as ++ [c]) (bs ++ [d]) := by
      intro as bs hab
      induction hab with
      | nil => intro c d hcd; exact .cons hcd .nil
      | cons r1 _ ih1 => intro c d hcd; exact .cons r1 (ih1 hcd)
    exact go ih r
def tRevL (K : PySem.W.Frag) (te ts : TE) : TE := fun σ H Q => te σ H fun x H1 => ts σ H1 fun k H2 => k = .int (-1) ∧ ∃ a xs, x = .ref a ∧ SqL K H2 a xs ∧ ∀ p, H2 p = none → Q (.ref p) (upd H2 p (.lst xs.reverse))
theorem pe_revL (he : PE X e te) (hst : PE X st ts) : PE X (.Subscript e (.Slice none none (some st) p2) pos) (tRevL X.K te ts) := by
  intro pins s σ H Q I h
  refine Subscript_ (thn (he pins s σ H _ I h) fun v s1 ⟨x, H1, I1, r1, q1⟩ => ?_)
  refine wpAny_Slice ?_
  rw [evalPart_none]
  refine wpAny_pure ?_
  refine wpAny_pure ?_
  rw [evalPart_some]
  refine thn (hst pins s1 σ H1 _ I1 q1) fun vk s2 ⟨k, H2, I2, r2, q2⟩ => ?_
  obtain ⟨rfl, a, xs, rfl, hx, q⟩ := q2
  obtain ⟨t, rfl⟩ := r2
  cases r1
  have I4 : Inv X pins σ H2 { s2 with heap := s2.heap.push { cls := .type "slice", data := .fields #[.none, .none, .int (-1) t] } } := I2.kept (t' := s2.toks) fun b ob q => Heap.get?_push_of_some _ q
  obtain ⟨its, r, ht, hz⟩ := I4.list hx
  have hlen := r.length
  have hg : wpAny (model X.prog X.w) X.A (getItem (.ref a) (.ref s2.heap.objs.size)) (EP X pins σ Q) X.xe { s2 with heap := s2.heap.push { cls := .type "slice", data := .fields #[.none, .none, .int (-1) t] } } := by
    refine wpAny_getItem_list_slice ht.isList (Heap.IsSliceOf.new ..) .none .none (.int (-1) t) (by decide) ?_ (by rw [List.size_toArray] <;> omega)
    rw [pick_rev]
    refine ⟨.ref _, _, I4.laid (t' := s2.toks) (o := .lst xs.reverse) (fun b ob q => Heap.get?_push_of_some _ q) (Nat.le_refl _) ?_, rfl, q _ (I4.hok.fresh (Nat.le_refl _))⟩
    exact ⟨by rw [List.length_reverse]; exact hz, _, 0, vals_back r, Heap.get?_push_size _ rfl⟩
  show wpAny (model X.prog X.w) X.A (subscriptTail e (.Slice none none (some st) p2) (.ref a) (.ref s2.heap.objs.size)) (EP X pins σ Q) X.xe { s2 with heap := s2.heap.push { cls := .type "slice", data := .fields #[.none, .none, .int (-1) t] } }
  exact tail_any (ops := [.ref a, .ref s2.heap.objs.size]) ht.isList.typeIs slot_list_getitem.lookup hg (by with_unfolding_all rfl)
end
end L2
namespace Tn
open PySem L2
def blkWords (b : Int) (n : Nat) : List Int := (List.range n).map fun (i : Nat) => b + i
def backs (ord : List Int) (xss : List (List Int)) : List (List Int) := ord.map fun w => backF (xss.getD w.toNat [])
end Tn
namespace L2
open PySem PySem.Spec PyProof.Rows
section
variable {X : Cx} {pos : Pos}
def gTupL (K : PySem.W.Frag) (n : Nat) (t : TGs) : TG := fun v σ H Q => ∃ a xs, v = .ref a ∧ SqL K H a xs ∧ xs.length = n ∧ t xs σ H Q
end
end L2
namespace Tn
open PySem L2
inductive Nest where
  | word
  | knot (k : Bool) (ps : List Nest)
  | bad
def kS (k : Bool) : Str := if k then "+" else "-"
def aS : Option Bool → Str
  | none => ""
  | some k => kS k
def Typed (K : PySem.W.Frag) (H : Hp) (y : V) : Prop := ∃ t b, TyOf K H y t ∧ PySem.W.kitOne K t (.type "tuple") = some b
inductive NoKnot (K : PySem.W.Frag) (H : Hp) : V → Prop where
  | ty {v : V} {t : Value} : TyOf K H v t → PySem.W.kitOne K t (.type "tuple") = some false → NoKnot K H v
  | len {a : Addr} {xs : List V} : H a = some (.tup xs) → xs.length ≠ 2 → NoKnot K H (.ref a)
  | notStr {a : Addr} {x y : V} {t : Value} : H a = some (.tup [x, y]) → TyOf K H x t → PySem.W.kitOne K t (.type "str") = some false → Typed K H y → NoKnot K H (.ref a)
  | kind {a : Addr} {z : Str} {y : V} : H a = some (.tup [.str z, y]) → z ≠ "+" → z ≠ "-" → Typed K H y → NoKnot K H (.ref a)
  | notTup {a : Addr} {k : Bool} {y : V} {t : Value} : H a = some (.tup [.str (kS k), y]) → TyOf K H y t → PySem.W.kitOne K t (.type "tuple") = some false → NoKnot K H (.ref a)
  | few {a b : Addr} {k : Bool} {xs : List V} : H a = some (.tup [.str (kS k), .ref b]) → H b = some (.tup xs) → xs.length < 2 → NoKnot K H (.ref a)
mutual
def NestAt (K : PySem.W.Frag) (H : Hp) : Nest → V → Prop
  | .word, v => v = .non
  | .knot k ps, v => ∃ a b vs, v = .ref a ∧ H a = some (.tup [.str (kS k), .ref b]) ∧ H b = some (.tup vs) ∧ 2 ≤ vs.length ∧ vs.length ≤ 1000 ∧ NestsAt K H ps vs
  | .bad, v => v ≠ .non ∧ NoKnot K H v
def NestsAt (K : PySem.W.Frag) (H : Hp) : List Nest → List V → Prop
  | [], vs => vs = []
  | n :: r, vs => ∃ v vr, vs = v :: vr ∧ NestAt K H n v ∧ NestsAt K H r vr
end
mutual
def words : Nest → Nat
  | .word => 1
  | .knot _ ps => wordsL ps
  | .bad => 1
def wordsL : List Nest → Nat
  | [] => 0
  | n :: r => words n + wordsL r
end
mutual
def valid : Option Bool → Nest → Bool
  | _, .word => true
  | o, .knot k ps => (!decide (o = some k)) && validL k ps
  | _, .bad => false
def validL : Bool → List Nest → Bool
  | _, [] => true
  | k, n :: r => valid (some k) n && validL k r
end
mutual
def depthN : Nest → Nat
  | .word => 0
  | .knot _ ps => 1 + depthL ps
  | .bad => 0
def depthL : List Nest → Nat
  | [] => 0
  | n :: r => Nat.max (depthN n) (depthL r)
end
mutual
def sizeN : Nest → Nat
  | .word => 1
  | .knot _ ps => 1 + sizeL ps
  | .bad => 1
def sizeL : List Nest → Nat
  | [] => 0
  | n :: r => sizeN n + sizeL r
end
theorem NoKnot.mono {K : PySem.W.Frag} {H H' : Hp} (s : Same H H') {v : V} (h : NoKnot K H v) : NoKnot K H' v := by
  cases h with
  | ty t k => exact .ty (Same.ty s t) k
  | len e k => exact .len (s _ _ e) k
  | notStr e t k y => exact .notStr (s _ _ e) (Same.ty s t) k (let ⟨t', b, t2, kk⟩ := y; ⟨t', b, Same.ty s t2, kk⟩)
  | kind e a b y => exact .kind (s _ _ e) a b (let ⟨t', b', t2, kk⟩ := y; ⟨t', b', Same.ty s t2, kk⟩)
  | notTup e t k => exact .notTup (s _ _ e) (Same.ty s t) k
  | few e1 e2 k => exact .few (s _ _ e1) (s _ _ e2) k
mutual
theorem NestAt.mono {K : PySem.W.Frag} {H H' : Hp} (s : Same H H') : ∀ {n : Nest} {v : V}, NestAt K H n v → NestAt K H' n v
  | .word, _, h => h
  | .knot _ _, _, ⟨a, b, vs, e, h1, h2, h3, h4, h5⟩ => ⟨a, b, vs, e, s _ _ h1, s _ _ h2, h3, h4, NestsAt.mono s h5⟩
  | .bad, _, ⟨h1, h2⟩ => ⟨h1, h2.mono s⟩
theorem NestsAt.mono {K : PySem.W.Frag} {H H' : Hp} (s : Same H H') : ∀ {ns : List Nest} {vs : List V}, NestsAt K H ns vs → NestsAt K H' ns vs
  | [], _, h => h
  | _ :: _, _, ⟨v, vr, e, h1, h2⟩ => ⟨v, vr, e, NestAt.mono s h1, NestsAt.mono s h2⟩
end
theorem NestsAt.len {K : PySem.W.Frag} {H : Hp} : ∀ {ns : List Nest} {vs : List V}, NestsAt K H ns vs → ns.length = vs.length
  | [], _, h => by have h : _ = [] := h; subst h; rfl
  | _ :: _, _, ⟨v, vr, e, _, h2⟩ => by subst e; simp [NestsAt.len h2]
theorem NestsAt.app {K : PySem.W.Frag} {H : Hp} : ∀ {ns ms : List Nest} {vs us : List V}, NestsAt K H ns vs → NestsAt K H ms us → NestsAt K H (ns ++ ms) (vs ++ us)
  | [], _, _, _, h, h' => by have h : _ = [] := h; subst h; exact h'
  | _ :: _, _, _, _, ⟨v, vr, e, h1, h2⟩, h' => by subst e; exact ⟨v, _, rfl, h1, NestsAt.app h2 h'⟩
theorem NestsAt.one {K : PySem.W.Frag} {H : Hp} {n : Nest} {v : V} (h : NestAt K H n v) : NestsAt K H [n] [v] := ⟨v, [], rfl, h, rfl⟩
theorem NestsAt.get {K : PySem.W.Frag} {H : Hp} : ∀ {ns : List Nest} {vs : List V} {i : Nat} {v : V}, NestsAt K H ns vs → vs[i]? = some v → ∃ n, ns[i]? = some n ∧ NestAt K H n v
  | [], _, _, _, h, e => by have h : _ = [] := h; subst h; cases e
  | n :: _, _, 0, _, ⟨v, vr, e0, h1, _⟩, e => by subst e0; cases e; exact ⟨n, rfl, h1⟩
  | _ :: _, _, i + 1, _, ⟨v, vr, e0, _, h2⟩, e => by subst e0; exact NestsAt.get (i := i) h2 (by simpa using e)
theorem wordsL_app : ∀ (a b : List Nest), wordsL (a ++ b) = wordsL a + wordsL b
  | [], b => by simp [wordsL]
  | n :: a, b => by simp only [List.cons_append, wordsL, wordsL_app a b]; omega
theorem validL_app (k : Bool) : ∀ (a b : List Nest), validL k (a ++ b) = (validL k a && validL k b)
  | [], b => by simp [validL]
  | n :: a, b => by simp only [List.cons_append, validL, validL_app k a b, Bool.and_assoc]
mutual
theorem words_pos {K : PySem.W.Frag} {H : Hp} : ∀ {n : Nest} {v : V}, NestAt K H n v → 1 ≤ words n
  | .word, _, _ => by simp [words]
  | .knot _ ps, _, ⟨_, _, vs, _, _, _, h3, _, h5⟩ => by
    have h6 := wordsL_pos h5
    have h7 := NestsAt.len h5
    simp only [words]
    omega
  | .bad, _, _ => by simp [words]
theorem wordsL_pos {K : PySem.W.Frag} {H : Hp} : ∀ {ns : List Nest} {vs : List V}, NestsAt K H ns vs → ns.length ≤ wordsL ns
  | [], _, _ => by simp [wordsL]
  | _ :: _, _, ⟨_, _, _, h1, h2⟩ => by
    have h3 := words_pos h1
    have h4 := wordsL_pos h2
    simp only [wordsL, List.length_cons]
    omega
end
mutual
theorem size_pos : ∀ (n : Nest), 1 ≤ sizeN n
  | .word => by simp [sizeN]
  | .knot _ _ => by simp [sizeN]
  | .bad => by simp [sizeN]
end
theorem NoKnot.updL {K : PySem.W.Frag} {H : Hp} {p : Addr} {us vs : List V} (e : H p = some (.lst us)) {v : V} (h : NoKnot K H v) : NoKnot K (upd H p (.lst vs)) v := by
  have tup : ∀ {a : Addr} {xs : List V}, H a = some (.tup xs) → (upd H p (.lst vs)) a = some (.tup xs) := fun {a xs} h => by
    rw [upd_ne (ne_of h e (by intro z; cases z))]
    exact h
  have go : ∀ {x : V} {t : Value}, TyOf K H x t → TyOf K (upd H p (.lst vs)) x t := fun {x t} h => by
    have keep : ∀ {a : Addr} {o : HO}, (∀ ys, o ≠ .lst ys) → H a = some o → (upd H p (.lst vs)) a = some o := fun {a o} n h => by
      rw [upd_ne (ne_of h e (n _))]
      exact h
    cases h with
    | non => exact .non
    | bl x => exact .bl x
    | int i => exact .int i
    | str x => exact .str x
    | flt x => exact .flt x
    | @lst a ys h =>
      by_cases hap : a = p
      · subst hap
        exact .lst upd_same
      · exact .lst (by rw [upd_ne hap]; exact h)
    | frz h => exact .frz (keep (fun _ z => nomatch z) h)
    | tup h => exact .tup (keep (fun _ z => nomatch z) h)
    | dK h => exact .dK (keep (fun _ z => nomatch z) h)
    | dT h => exact .dT (keep (fun _ z => nomatch z) h)
    | ins h c a b d f => exact .ins (keep (fun _ z => nomatch z) h) c a b d f
  cases h with
  | ty t k => exact .ty (go t) k
  | len h k => exact .len (tup h) k
  | notStr h t k y => exact .notStr (tup h) (go t) k (let ⟨t', b, t2, kk⟩ := y; ⟨t', b, go t2, kk⟩)
  | kind h a b y => exact .kind (tup h) a b (let ⟨t', b', t2, kk⟩ := y; ⟨t', b', go t2, kk⟩)
  | notTup h t k => exact .notTup (tup h) (go t) k
  | few h1 h2 k => exact .few (tup h1) (tup h2) k
mutual
theorem NestAt.updL {K : PySem.W.Frag} {H : Hp} {p : Addr} {us vs : List V} (e : H p = some (.lst us)) : ∀ {n : Nest} {v : V}, NestAt K H n v → NestAt K (upd H p (.lst vs)) n v
  | .word, _, h => h
  | .knot _ _, _, ⟨a, b, ws, e0, h1, h2, h3, h4, h5⟩ => ⟨a, b, ws, e0, by rw [upd_ne (ne_of h1 e (by intro z; cases z))]; exact h1, by rw [upd_ne (ne_of h2 e (by intro z; cases z))]; exact h2, h3, h4, NestsAt.updL e h5⟩
  | .bad, _, ⟨h1, h2⟩ => ⟨h1, h2.updL e⟩
theorem NestsAt.updL {K : PySem.W.Frag} {H : Hp} {p : Addr} {us vs : List V} (e : H p = some (.lst us)) : ∀ {ns : List Nest} {ws : List V}, NestsAt K H ns ws → NestsAt K (upd H p (.lst vs)) ns ws
  | [], _, h => h
  | _ :: _, _, ⟨v, vr, e0, h1, h2⟩ => ⟨v, vr, e0, NestAt.updL e h1, NestsAt.updL e h2⟩
end
def okN (n : Nest) : Bool := valid none n && decide (words n ≤ 60)
def spKnot (K : PySem.W.Frag) : Sp := fun vs H Q _ => ∃ v, vs = [v] ∧ ((NoKnot K H v ∧ ∀ H', Same H H' → Q (.bl false) H') ∨
  ∃ a b k us, v = .ref a ∧ H a = some (.tup [.str (kS k), .ref b]) ∧ H b = some (.tup us) ∧ 2 ≤ us.length ∧ us.length ≤ 1000 ∧ ∀ H', Same H H' → Q (.bl true) H')
def spIsNest (K : PySem.W.Frag) : Sp := fun vs H Q _ => ∃ v n, vs = [v] ∧ NestAt K H n v ∧ ∀ H', Same H H' → Q (.bl (okN n)) H'
theorem kS_in (k : Bool) : inV (.str (kS k)) [.str "+", .str "-"] = true := by cases k <;> decide +kernel
theorem kS_notIn {z : Str} (h1 : z ≠ "+") (h2 : z ≠ "-") : inV (.str z) [.str "+", .str "-"] = false := by
  unfold inV
  simp only [List.any_cons, List.any_nil, Bool.or_false, eqV, Bool.or_eq_false_iff, beq_eq_false_iff_ne, ne_eq]
  first
  | exact ⟨h1, h2⟩
  | exact ⟨fun e => h1 e.symm, fun e => h2 e.symm⟩
theorem kS_ne (k : Bool) (o : Option Bool) : decide (V.str (kS k) = V.str (aS o)) = decide (o = some k) := by
  cases o with
  | none => cases k <;> decide +kernel
  | some j => cases k <;> cases j <;> decide +kernel
def WaitAt (K : PySem.W.Frag) (H : Hp) : List (Nest × Option Bool) → List Addr → Prop
  | [], ts => ts = []
  | p :: r, ts => ∃ t tr v, ts = t :: tr ∧ H t = some (.tup [v, .str (aS p.2)]) ∧ NestAt K H p.1 v ∧ WaitAt K H r tr
theorem WaitAt.mono {K : PySem.W.Frag} {H H' : Hp} (s : Same H H') : ∀ {st : List (Nest × Option Bool)} {ts : List Addr}, WaitAt K H st ts → WaitAt K H' st ts
  | [], _, h => h
  | _ :: _, _, ⟨t, tr, v, e, h1, h2, h3⟩ => ⟨t, tr, v, e, s _ _ h1, h2.mono s, WaitAt.mono s h3⟩
theorem WaitAt.updL {K : PySem.W.Frag} {H : Hp} {p : Addr} {us vs : List V} (e : H p = some (.lst us)) : ∀ {st : List (Nest × Option Bool)} {ts : List Addr}, WaitAt K H st ts → WaitAt K (upd H p (.lst vs)) st ts
  | [], _, h => h
  | _ :: _, _, ⟨t, tr, v, e0, h1, h2, h3⟩ => ⟨t, tr, v, e0, by rw [upd_ne (ne_of h1 e (by intro z; cases z))]; exact h1, h2.updL e, WaitAt.updL e h3⟩
theorem WaitAt.len {K : PySem.W.Frag} {H : Hp} : ∀ {st : List (Nest × Option Bool)} {ts : List Addr}, WaitAt K H st ts → st.length = ts.length
  | [], _, h => by have h : _ = [] := h; subst h; rfl
  | _ :: _, _, ⟨_, _, _, e, _, _, h3⟩ => by subst e; simp [WaitAt.len h3]
theorem WaitAt.app {K : PySem.W.Frag} {H : Hp} : ∀ {a b : List (Nest × Option Bool)} {ts us : List Addr}, WaitAt K H a ts → WaitAt K H b us → WaitAt K H (a ++ b) (ts ++ us)
  | [], _, _, _, h, h' => by have h : _ = [] := h; subst h; exact h'
  | _ :: _, _, _, _, ⟨t, tr, v, e, h1, h2, h3⟩, h' => by subst e; exact ⟨t, _, v, rfl, h1, h2, WaitAt.app h3 h'⟩
theorem WaitAt.rev {K : PySem.W.Frag} {H : Hp} : ∀ {a : List (Nest × Option Bool)} {ts : List Addr}, WaitAt K H a ts → WaitAt K H a.reverse ts.reverse
  | [], _, h => by have h : _ = [] := h; subst h; rfl
  | _ :: _, _, ⟨t, tr, v, e, h1, h2, h3⟩ => by
    subst e
    rw [List.reverse_cons, List.reverse_cons]
    exact WaitAt.app (WaitAt.rev h3) ⟨t, [], v, rfl, h1, h2, rfl⟩
def waitW (st : List (Nest × Option Bool)) : Nat := (st.map fun p => words p.1).sum
def waitS (st : List (Nest × Option Bool)) : Nat := (st.map fun p => sizeN p.1).sum
def waitOk (st : List (Nest × Option Bool)) : Bool := st.all fun p => valid p.2 p.1
theorem WaitAt.words {K : PySem.W.Frag} {H : Hp} : ∀ {st : List (Nest × Option Bool)} {ts : List Addr}, WaitAt K H st ts → st.length ≤ waitW st
  | [], _, _ => by simp [waitW]
  | p :: r, _, ⟨_, _, _, _, _, h2, h3⟩ => by
    have a1 := words_pos h2
    have a2 := WaitAt.words h3
    unfold waitW at *
    simp only [List.map_cons, List.sum_cons, List.length_cons]
    omega
def within (k : Bool) (ps : List Nest) : List (Nest × Option Bool) := ps.map fun n => (n, some k)
theorem within_w (k : Bool) : ∀ ps, waitW (within k ps) = wordsL ps
  | [] => rfl
  | n :: r => by
    have := within_w k r
    unfold waitW within at *
    simp only [List.map_cons, List.sum_cons, wordsL]
    omega
theorem within_s (k : Bool) : ∀ ps, waitS (within k ps) = sizeL ps
  | [] => rfl
  | n :: r => by
    have := within_s k r
    unfold waitS within at *
    simp only [List.map_cons, List.sum_cons, sizeL]
    omega
theorem within_ok (k : Bool) : ∀ ps, waitOk (within k ps) = validL k ps
  | [] => rfl
  | n :: r => by
    have := within_ok k r
    unfold waitOk within at *
    simp only [List.map_cons, List.all_cons, validL, this]
theorem waitW_app (a b : List (Nest × Option Bool)) : waitW (a ++ b) = waitW a + waitW b := by simp [waitW]
theorem waitS_app (a b : List (Nest × Option Bool)) : waitS (a ++ b) = waitS a + waitS b := by simp [waitS]
theorem waitOk_app (a b : List (Nest × Option Bool)) : waitOk (a ++ b) = (waitOk a && waitOk b) := by simp [waitOk]
theorem waitW_rev (a : List (Nest × Option Bool)) : waitW a.reverse = waitW a := by simp [waitW]
theorem waitS_rev (a : List (Nest × Option Bool)) : waitS a.reverse = waitS a := by simp [waitS]
theorem waitOk_rev (a : List (Nest × Option Bool)) : waitOk a.reverse = waitOk a := by simp [waitOk]
end Tn
namespace Tn
open PySem L2
structure Ent where
  e : Addr
  p : Addr
  k : Bool
  ns : List Nest
  vs : List V
def EntAt (K : PySem.W.Frag) (H : Hp) (x : Ent) : Prop := H x.e = some (.lst [.str (kS x.k), .ref x.p]) ∧ H x.p = some (.lst x.vs) ∧ NestsAt K H x.ns x.vs
def addrs : List Ent → List Addr
  | [] => []
  | x :: r => x.e :: x.p :: addrs r
def refsE (st : List Ent) : List V := st.reverse.map fun x => V.ref x.e
theorem refsE_cons (x : Ent) (r : List Ent) : refsE (x :: r) = refsE r ++ [V.ref x.e] := by simp [refsE]
structure PileAt (K : PySem.W.Frag) (B H : Hp) (pl : Addr) (st : List Ent) : Prop where
  here : H pl = some (.lst (refsE st))
  ents : ∀ x ∈ st, EntAt K H x
  nd : (pl :: addrs st).Nodup
  fresh : ∀ a ∈ pl :: addrs st, B a = none
  same : Same B H
theorem EntAt.mono {K : PySem.W.Frag} {H H' : Hp} (s : Same H H') {x : Ent} (h : EntAt K H x) : EntAt K H' x := ⟨s _ _ h.1, s _ _ h.2.1, NestsAt.mono s h.2.2⟩
theorem addrs_mem {x : Ent} : ∀ {st : List Ent}, x ∈ st → x.e ∈ addrs st ∧ x.p ∈ addrs st
  | y :: r, h => by
    rcases List.mem_cons.mp h with rfl | h
    · simp [addrs]
    · have := addrs_mem h
      simp [addrs, this]
theorem addrs_there {K : PySem.W.Frag} {H : Hp} {a : Addr} : ∀ {st : List Ent}, (∀ x ∈ st, EntAt K H x) → a ∈ addrs st → ∃ o, H a = some o
  | x :: r, h, ha => by
    have hx := h x List.mem_cons_self
    simp only [addrs, List.mem_cons] at ha
    rcases ha with rfl | rfl | ha
    · exact ⟨_, hx.1⟩
    · exact ⟨_, hx.2.1⟩
    · exact addrs_there (fun y hy => h y (List.mem_cons_of_mem _ hy)) ha
theorem PileAt.mono {K : PySem.W.Frag} {B H H' : Hp} {pl : Addr} {st : List Ent} (h : PileAt K B H pl st) (s : Same H H') : PileAt K B H' pl st :=
  ⟨s _ _ h.here, fun x hx => (h.ents x hx).mono s, h.nd, h.fresh, h.same.trans s⟩
theorem EntAt.updL {K : PySem.W.Frag} {H : Hp} {q : Addr} {us vs : List V} {x : Ent} (h : EntAt K H x) (e : H q = some (.lst us)) (h1 : x.e ≠ q) (h2 : x.p ≠ q) : EntAt K (upd H q (.lst vs)) x :=
  ⟨by rw [upd_ne h1]; exact h.1, by rw [upd_ne h2]; exact h.2.1, NestsAt.updL e h.2.2⟩
theorem PileAt.pop {K : PySem.W.Frag} {B H : Hp} {pl : Addr} {x : Ent} {r : List Ent} (h : PileAt K B H pl (x :: r)) :
    PileAt K B (upd H pl (.lst (refsE r))) pl r ∧ EntAt K (upd H pl (.lst (refsE r))) x := by
  have hx := h.ents x List.mem_cons_self
  have nd := h.nd
  simp only [addrs, List.nodup_cons, List.mem_cons, not_or] at nd
  obtain ⟨⟨n1, n2, n3⟩, ⟨n4, n5⟩, n6, n7⟩ := nd
  refine ⟨⟨upd_same, fun y hy => ?_, List.nodup_cons.mpr ⟨n3, n7⟩, fun a ha => h.fresh a ?_, fun b o e => ?_⟩, hx.updL h.here (fun z => n1 z.symm) (fun z => n2 z.symm)⟩
  · obtain ⟨a1, a2⟩ := addrs_mem hy
    exact (h.ents y (List.mem_cons_of_mem _ hy)).updL h.here (fun z => n3 (z ▸ a1)) (fun z => n3 (z ▸ a2))
  · rcases List.mem_cons.mp ha with rfl | ha
    · exact List.mem_cons_self
    · simp [addrs, ha]
  · rw [upd_ne (ne_of_none e (h.fresh pl List.mem_cons_self))]
    exact h.same b o e
theorem PileAt.push {K : PySem.W.Frag} {B H : Hp} {pl : Addr} {st : List Ent} (h : PileAt K B H pl st) {e p : Addr} {k : Bool} (hp : H p = none) (he : (upd H p (.lst [])) e = none) :
    PileAt K B (upd (upd (upd H p (.lst [])) e (.lst [.str (kS k), .ref p])) pl (.lst (refsE st ++ [.ref e]))) pl (⟨e, p, k, [], []⟩ :: st) := by
  have sp : Same H (upd H p (.lst [])) := same_upd hp
  have se : Same (upd H p (.lst [])) (upd (upd H p (.lst [])) e (.lst [.str (kS k), .ref p])) := same_upd he
  have he0 : H e = none := sp.free he
  have nep : e ≠ p := fun z => by rw [z, upd_same] at he; cases he
  have npl1 : pl ≠ p := ne_of_none h.here hp
  have npl2 : pl ≠ e := ne_of_none h.here he0
  have nin : ∀ {a : Addr}, H a = none → a ∉ addrs st := fun ha z => by
    obtain ⟨o, eo⟩ := addrs_there h.ents z
    rw [ha] at eo
    cases eo
  have h2 := h.mono (sp.trans se)
  have nd := List.nodup_cons.mp h.nd
  refine ⟨by rw [upd_same, refsE_cons], fun y hy => ?_, ?_, ?_, fun b o eb => ?_⟩
  · rcases List.mem_cons.mp hy with rfl | hy
    · refine ⟨by show upd _ _ _ e = _; rw [upd_ne (fun z => npl2 z.symm)]; exact upd_same, ?_, rfl⟩
      show upd _ _ _ p = _
      rw [upd_ne (fun z => npl1 z.symm)]
      exact se _ _ upd_same
    · obtain ⟨a1, a2⟩ := addrs_mem hy
      exact (h2.ents y hy).updL h2.here (fun z => nd.1 (z ▸ a1)) (fun z => nd.1 (z ▸ a2))
  · simp only [addrs, List.nodup_cons, List.mem_cons, not_or]
    exact ⟨⟨npl2, npl1, nd.1⟩, ⟨nep, nin he0⟩, nin hp, nd.2⟩
  · intro a ha
    simp only [addrs, List.mem_cons] at ha
    rcases ha with rfl | rfl | rfl | ha
    · exact h.fresh _ List.mem_cons_self
    · exact h.same.free he0
    · exact h.same.free hp
    · exact h.fresh a (List.mem_cons_of_mem _ ha)
  · rw [upd_ne (ne_of_none eb (h.fresh pl List.mem_cons_self))]
    exact h2.same b o eb
def lackT (st : List Ent) : Nat := (st.map fun x => 1 - x.vs.length).sum
def lackR : List Ent → Nat
  | [] => 0
  | x :: r => (2 - x.vs.length) + lackT r
def KindsR (kind : Bool) : List Ent → Prop
  | [] => False
  | [x] => x.k = kind
  | x :: y :: r => x.k = !y.k ∧ KindsR kind (y :: r)
def pileW (st : List Ent) : Nat := (st.map fun x => wordsL x.ns).sum
def spMore (K : PySem.W.Frag) : Sp := fun vs H Q _ => ∃ (l : Addr) (ns : List Int), vs = [.ref l] ∧ SqL K H l (ns.map V.int) ∧ ns.length ≤ 63 ∧
  ∀ (f : Addr) (ms : List Int) (H' : Hp), H f = none → H' f = some (.lst (ms.map V.int)) → Same H H' → ms.length = 3 * ns.length → Q (.ref f) H'
def spLack (K : PySem.W.Frag) : Sp := fun vs H Q _ => ∃ (pl : Addr) (x : Ent) (r : List Ent), vs = [.ref pl] ∧ H pl = some (.lst (refsE (x :: r))) ∧ (∀ y ∈ x :: r, EntAt K H y) ∧ r.length ≤ 900 ∧
  ∀ H', Same H H' → Q (.int (lackR (x :: r) : Nat)) H'
def spNest (K : PySem.W.Frag) : Sp := fun vs H Q _ => ∃ (l : Addr) (cs : List Int) (k : Bool) (most : Nat), vs = [.ref l, .str (kS k), .int (most : Int)] ∧ SqL K H l (cs.map V.int) ∧ cs.length ≤ 200 ∧
  ∀ (n : Nest) (v : V) (H' : Hp), NestAt K H' n v → valid none n = true → (words n ≤ most ∨ words n = 1) → Same H H' → Q v H'
theorem dec_and {a b : TT} {σ : L2.St} {H : Hp} {A B : Bool} (ha : ∀ Q : Bool → Hp → Prop, Q A H → a σ H Q) (hb : ∀ Q : Bool → Hp → Prop, Q B H → b σ H Q) : ∀ Q : Bool → Hp → Prop, Q (A && B) H → tAnd a b σ H Q := fun Q h => by
  refine ha _ ?_
  cases A with
  | true => exact hb Q h
  | false => exact h
end Tn
namespace L2
open PySem PySem.Spec PyProof.Rows
section
variable {X : Cx}
end
end L2
namespace Tn
open PySem L2
mutual
theorem depth_words {K : PySem.W.Frag} {H : Hp} : ∀ {n : Nest} {v : V}, NestAt K H n v → depthN n + 1 ≤ words n
  | .word, _, _ => by simp [words, depthN]
  | .knot _ ps, _, ⟨_, _, vs, _, _, _, h3, _, h5⟩ => by
    have h6 := depthL_words h5
    have h7 := NestsAt.len h5
    simp only [words, depthN]
    omega
  | .bad, _, _ => by simp [words, depthN]
theorem depthL_words {K : PySem.W.Frag} {H : Hp} : ∀ {ns : List Nest} {vs : List V}, NestsAt K H ns vs → depthL ns + ns.length ≤ wordsL ns
  | [], _, _ => by simp [wordsL, depthL]
  | n :: r, _, ⟨_, _, _, h1, h2⟩ => by
    have h3 := depth_words h1
    have h4 := depthL_words h2
    have h5 := wordsL_pos h2
    have h6 := words_pos h1
    simp only [wordsL, depthL, List.length_cons]
    have : Nat.max (depthN n) (depthL r) ≤ depthN n ∨ Nat.max (depthN n) (depthL r) ≤ depthL r := by
      rcases Nat.le_total (depthN n) (depthL r) with h | h
      · right; exact Nat.max_le.mpr ⟨h, Nat.le_refl _⟩
      · left; exact Nat.max_le.mpr ⟨Nat.le_refl _, h⟩
    omega
end
def spMust (K : PySem.W.Frag) (C : Addr) : Sp := fun vs H Q E => ∃ v n, vs = [v] ∧ NestAt K H n v ∧ (okN n = true → ∀ H', Same H H' → Q .non H') ∧ (okN n = false → ∀ H', Same H H' → E (.ref C) none H')
def spAsk (K : PySem.W.Frag) (C : Addr) (g : Nest → Nat) : Sp := fun vs H Q E => ∃ v n, vs = [v] ∧ NestAt K H n v ∧ (okN n = true → ∀ H', Same H H' → Q (.int (g n : Nat)) H') ∧ (okN n = false → ∀ H', Same H H' → E (.ref C) none H')
def spCount (K : PySem.W.Frag) (g : Nest → Nat) (d : Nat) : Sp := fun vs H Q _ => ∃ v n o, vs = [v] ∧ NestAt K H n v ∧ valid o n = true ∧ depthN n < d ∧ ∀ H', Same H H' → Q (.int (g n : Nat)) H'
theorem okN_valid {n : Nest} (h : okN n = true) : valid none n = true ∧ words n ≤ 60 := by
  unfold okN at h
  obtain ⟨a, b⟩ := Bool.and_eq_true_iff.mp h
  exact ⟨a, of_decide_eq_true b⟩
theorem validL_get {k : Bool} : ∀ {ps : List Nest} {i : Nat} {n : Nest}, validL k ps = true → ps[i]? = some n → valid (some k) n = true
  | [], _, _, _, h => nomatch h
  | m :: r, 0, _, hv, h => by cases h; simp only [validL, Bool.and_eq_true] at hv; exact hv.1
  | m :: r, i + 1, _, hv, h => by simp only [validL, Bool.and_eq_true] at hv; exact validL_get (i := i) hv.2 (by simpa using h)
theorem depthL_get : ∀ {ps : List Nest} {i : Nat} {n : Nest}, ps[i]? = some n → depthN n ≤ depthL ps
  | [], _, _, h => nomatch h
  | m :: r, 0, _, h => by cases h; simp only [depthL]; exact Nat.le_max_left _ _
  | m :: r, i + 1, _, h => by simp only [depthL]; exact Nat.le_trans (depthL_get (i := i) (by simpa using h)) (Nat.le_max_right _ _)
theorem wordsL_sum : ∀ ps : List Nest, ((ps.map fun n => ((words n : Nat) : Int)).sum) = ((wordsL ps : Nat) : Int)
  | [] => rfl
  | n :: r => by simp only [List.map_cons, List.sum_cons, wordsL, wordsL_sum r]; omega
end Tn
namespace L2
open PySem PySem.Spec PyProof PyProof.Rows
theorem cat_tup0 {prog : Program} {w : World} {A : Around} {E : Value → Shared → Prop} {s : Shared} {t b : Addr} {ws : List Value} {Q : Value → Shared → Prop} (ht : IsTup s.heap t ([] : List Value).toArray) (hb : IsTup s.heap b ws.toArray) (h : Q (.ref b) s) :
    wpAny (model prog w) A (binaryOp .Add (.ref t) (.ref b)) Q E s := by
  obtain ⟨⟨cls, dd, data, sl⟩, ho, hc, n, hd⟩ := ht
  obtain ⟨⟨cls2, dd2, data2, sl2⟩, ho2, hc2, n2, hd2⟩ := hb
  cases hc
  cases hd
  cases hc2
  cases hd2
  exact concat_meets ⟨_, ho, rfl⟩ ⟨_, ho2, rfl⟩ noFill_tuple_add seq_tuple_add F.slot_tuple_add F.entry_tuple_add (F.args_tuple_add_2 _ _) (tuple_addW0 t b _ _ n n2 dd dd2 sl sl2 (by simp)) ⟨ho, ho2, h⟩
section
variable {X : Cx}
def rRepT (K : PySem.W.Frag) : R2 := fun x y H Q => ∃ a k z, x = .ref a ∧ y = .int k ∧ SqT K H a [z] ∧ 1 < k ∧ k < 1000000 ∧ ∀ p, H p = none → Q (.ref p) (upd H p (.tup (List.replicate k.toNat z)))
def rCatA (K : PySem.W.Frag) : R2 := fun x y H Q => ∃ a b xs ys, x = .ref a ∧ y = .ref b ∧ SqT K H a xs ∧ SqT K H b ys ∧ xs.length + ys.length ≤ sizeLine ∧
  ((xs = [] ∧ Q (.ref b) H) ∨ (xs ≠ [] ∧ ys = [] ∧ Q (.ref a) H) ∨ (xs ≠ [] ∧ ys ≠ [] ∧ ∀ p, H p = none → Q (.ref p) (upd H p (.tup (xs ++ ys)))))
theorem op_catA : OpR X (binaryOp .Add) (rCatA X.K) := by
  intro pins s σ H x y v u Q I rx ry h
  obtain ⟨a, b, xs, ys, rfl, rfl, ha, hb, hz, h⟩ := h
  cases rx
  cases ry
  obtain ⟨its, r1, p1, _⟩ := I.tuple ha
  obtain ⟨its2, r2, p2, _⟩ := I.tuple hb
  rcases h with ⟨hx, q⟩ | ⟨hx, hy, q⟩ | ⟨hx, hy, q⟩
  · subst hx
    cases r1
    exact cat_tup0 p1 p2 ⟨.ref b, H, I, rfl, q⟩
  · exact HT.cat_tup p1 p2 (fun z => hx (r1.nil_iff.mp z)) (fun z => ⟨.ref a, H, I, rfl, q⟩) (fun z => absurd (r2.nil_iff.mpr hy) z) (by rw [← r1.length, ← r2.length]; exact hz)
  · refine HT.cat_tup p1 p2 (fun z => hx (r1.nil_iff.mp z)) (fun z => absurd (r2.nil_iff.mp z) hy) (fun z => ?_) (by rw [← r1.length, ← r2.length]; exact hz)
    refine ⟨.ref s.heap.objs.size, _, I.laid (t' := s.toks) (o := .tup (xs ++ ys)) (fun b ob q => Heap.get?_push_of_some _ q) (Nat.le_refl _) ?_, rfl, q _ (I.hok.fresh (Nat.le_refl _))⟩
    exact ⟨by rw [List.length_append]; exact hz, _, r1.append r2, IsTupN.new _ _⟩
end
end L2
namespace Tn
open PySem L2
theorem kit_not (K : PySem.W.Frag) {n m : String} (h0 : PySem.W.kitMeta m = true) (h1 : (Value.type n == Value.type m) = false) (h2 : (fastBuiltinMro n).map (·.contains (.type m)) = some false) : PySem.W.kitOne K (.type n) (.type m) = some false := by
  unfold PySem.W.kitOne
  rw [if_neg (by rw [h1]; decide)]
  show (if PySem.W.kitMeta m = true then PySem.W.subIn K (.type n) (.type m) else none) = some false
  rw [if_pos h0]
  exact h2
theorem NestsAt.take {K : PySem.W.Frag} {H : Hp} : ∀ {ns : List Nest} {vs : List V} (k : Nat), NestsAt K H ns vs → NestsAt K H (ns.take k) (vs.take k)
  | _, _, 0, _ => by rw [List.take_zero, List.take_zero]; rfl
  | [], _, _ + 1, h => by have h : _ = [] := h; subst h; rfl
  | _ :: _, _, k + 1, ⟨v, vr, e, h1, h2⟩ => by subst e; exact ⟨v, _, rfl, h1, NestsAt.take k h2⟩
theorem NestsAt.drop {K : PySem.W.Frag} {H : Hp} : ∀ {ns : List Nest} {vs : List V} (k : Nat), NestsAt K H ns vs → NestsAt K H (ns.drop k) (vs.drop k)
  | _, _, 0, h => h
  | [], _, _ + 1, h => by have h : _ = [] := h; subst h; rfl
  | _ :: _, _, k + 1, ⟨v, vr, e, h1, h2⟩ => by subst e; exact NestsAt.drop k h2
theorem cutV_head (xs : List V) (k : Nat) (h : k ≤ xs.length) : cutV xs none (some (k : Int)) = xs.take k := by
  have := cut_head id xs k h
  simpa using this
theorem cutV_tail (xs : List V) (k : Nat) (h : k ≤ xs.length) : cutV xs (some (k : Int)) none = xs.drop k := by
  have := cut_tail id xs k h
  simpa using this
def spNone (K : PySem.W.Frag) : Sp := fun vs H Q _ => ∃ v n c, vs = [v, .int c] ∧ NestAt K H n v ∧ valid none n = true ∧ words n ≤ 60 ∧ ∀ (n' : Nest) (v' : V) (H' : Hp), NestAt K H' n' v' → okN n' = false → Same H H' → Q v' H'
end Tn
namespace Tn
open L2 PySem PySem.W PySem.Calls PyProof.Rows PySem.Spec
def Has (P : Program) (w : World) (K : PySem.W.Frag) (mg : Str → Option Value) (base : Heap) (CX : CXT) (k : Nat) (x : Str) (ps : List Str) (sp : Sp) : Prop :=
  ∃ (f : Addr) (fd : FuncData), FnOk P w K mg base CX k f fd ps sp ∧ PySem.W.keepIn K (.ref f) = true ∧ mg x = some (.ref f) ∧ Binds K fd ps []
structure Def (K : PySem.W.Frag) (mg : Str → Option Value) (x : Str) (st : Stmt) (ps : List Str) : Prop where
  ex : ∃ (f : Addr) (fd : FuncData), L2.Fun K x x st f fd ∧ PySem.W.keepIn K (.ref f) = true ∧ mg x = some (.ref f) ∧ Binds K fd ps []
section
variable {P : Program} {w : World} {K : PySem.W.Frag} {mg : Str → Option Value} {base : Heap} {x : Str} {st : Stmt} {N ps : List Str} {k : Nat} {sp sp' : Sp} {CX : CXT}
theorem Def.ok (D : Def K mg x st ps) (S : FnScope N ps (defScope st)) (len : ∀ vs H Q E, sp vs H Q E → vs.length = ps.length)
    (hbody : ∀ (f : Addr) (cdv : Value) (A : Around) (outer : List Env) (s : Shared) (H : Hp) (vs : List V) (Q : VK) (E : XK), Room k (A.deeper (envOfC x (defScope st) s.heap.objs.size f cdv)) → sp vs H Q E →
      ∃ t, PSs (cxOf CX0 P w K mg base N x (defScope st) f cdv A outer s H E).nox (defBody st) t ∧ t { nx := fun _ H' => Q .non H', rt := Q } (start N vs) H) : Has P w K mg base CX0 (k + 1) x ps sp := by
  obtain ⟨f, fd, F, h1, h2, h3⟩ := D.ex
  exact ⟨f, fd, F.ok S len (fun cdv A outer s H vs Q E => hbody f cdv A outer s H vs Q E), h1, h2, h3⟩
theorem Def.okV (D : Def K mg x st ps) (S : FnScope N ps (defScope st)) (len : ∀ vs H Q E, sp vs H Q E → vs.length = ps.length)
    (hbody : ∀ (f : Addr) (cdv : Value) (A : Around) (outer : List Env) (s : Shared) (H : Hp) (vs : List V) (Q : VK) (E : XK), Room k (A.deeper (envOfC x (defScope st) s.heap.objs.size f cdv)) → sp vs H Q E →
      ∃ t, PSs (cxOf (CXV P w) P w K mg base N x (defScope st) f cdv A outer s H E) (defBody st) t ∧ t { nx := fun _ H' => Q .non H', rt := Q } (start N vs) H) : Has P w K mg base (CXV P w) (k + 1) x ps sp := by
  obtain ⟨f, fd, F, h1, h2, h3⟩ := D.ex
  exact ⟨f, fd, funV F S len (fun cdv A outer s H vs Q E => hbody f cdv A outer s H vs Q E), h1, h2, h3⟩
theorem Def.rec0 (D : Def K mg x st ps) (h : ∀ vs H Q E, ¬ sp vs H Q E) : Has P w K mg base CX k x ps sp := by
  obtain ⟨f, fd, F, h1, h2, h3⟩ := D.ex
  exact ⟨f, fd, ⟨fun vs H Q E z => absurd z (h vs H Q E), fun A outer s H args us vs Q E _ _ _ _ z => absurd z (h vs H Q E)⟩, h1, h2, h3⟩
theorem Has.mono {j : Nat} (F : Has P w K mg base CX j x ps sp) (h : j ≤ k) : Has P w K mg base CX k x ps sp :=
  let ⟨f, fd, G, r⟩ := F; ⟨f, fd, G.mono h, r⟩
theorem Has.imp (F : Has P w K mg base CX k x ps sp) (h : ∀ vs H Q E, sp' vs H Q E → sp vs H Q E) : Has P w K mg base CX k x ps sp' :=
  let ⟨f, fd, G, r⟩ := F; ⟨f, fd, G.imp h, r⟩
end
def tHas (sp : Sp) (E : XK) (t : TA) : TE := fun σ H Q => t σ H fun vs H1 => sp vs H1 Q E
section
variable {X : Cx}
theorem pe_has {CX : CXT} {k : Nat} {x : Str} {ps : List Str} {sp : Sp} {E : XK} {e : Expr} {es : List Expr} {t : TA} {p pos : Pos} (F : Has X.prog X.w X.K X.mg X.base CX k x ps sp) (hr : Room k X.A) (hg : Gl X x) (hx : Passes CX X E)
    (ha : PA X (e :: es) t) (hdb : (x == ("__debug__" : Str)) = false := by decide) (he : starEach (e :: es) X.env = (false, eval e X.env) :: starEach es X.env := by rfl) (hpl : (backTo pos (starEach es X.env)).any (·.1) = false := by rfl) :
    PE X (.Call (.Name x p) (e :: es) [] pos) (tHas sp E t) := by
  obtain ⟨f, fd, G, h1, h2, h3⟩ := F
  have e0 : tHas sp E t = tCall sp [] E t := by
    funext σ H Q
    show t σ H (fun vs H1 => sp vs H1 Q E) = t σ H (fun vs H1 => sp (vs ++ []) H1 Q E)
    congr 1
    funext vs H1
    rw [List.append_nil]
  rw [e0]
  exact pe_call G hr hg h2 h1 h3 .nil hx ha hdb he hpl
theorem op_mulW : OpR X (binaryOp .Mult) (rI IntMulOk fun i j => .int (i * j)) := opI fun _ _ _ _ _ _ _ hc q => PyProof.Rows.mul_int q hc
def rIsi (K : PySem.W.Frag) : List V → Hp → VK → Prop := fun xs H Q => ∃ x t n b, xs = [x, .ty n] ∧ TyOf K H x t ∧ PySem.W.kitOne K t (.type n) = some b ∧ Q (.bl b) H
end
structure ExcL (K : PySem.W.Frag) (T C : Addr) : Prop where
  xC : PySem.W.excIn K C bmVE "ValueError.__new__" = true
  tx : ExcTxt K C
  ct : CatTxt K T
  mr : PySem.W.mroIn K C (.ref T) = some true
  ve : PySem.W.kitOne K (.ref C) (.type "ValueError") = some true
def spCellAt (K : PySem.W.Frag) : Sp := fun vs H Q _ => ∃ (a : Addr) (ns : List Int) (k : Nat), vs = [.ref a, .int (k : Int)] ∧ SqL K H a (ns.map V.int) ∧ ∀ z : Int, Q (.int z) H
def spLawOf (K : PySem.W.Frag) : Sp := fun vs H Q _ => ∃ (a : Addr) (ns : List Int), vs = [.ref a] ∧ SqL K H a (ns.map V.int) ∧ ns.length ≤ 63 ∧ ∀ H', Q (.bl true) H'
theorem mulOk_of {i j : Int} (h1 : -(2 ^ 64) < i) (h2 : i < 2 ^ 64) : IntMulOk i j := CMul.ok (.inl ⟨h1, h2⟩)
end Tn
namespace Tn
open L2 PySem
theorem go_c {X : Cx} {s : Stmt} {ss : List Stmt} {C : TS → Prop} {t : TS} (hs : PS X s t) (k : let t' := t; ∃ u, PSs X ss u ∧ C (tSeq t' u)) : ∃ u, PSs X (s :: ss) u ∧ C u :=
  let ⟨_, hu, hc⟩ := k; ⟨_, pss_cons hs hu, hc⟩
theorem go_1 {X : Cx} {s : Stmt} {C : TS → Prop} {t : TS} (hs : PS X s t) (k : let t' := t; C t') : ∃ u, PSs X [s] u ∧ C u := ⟨_, pss_one hs, k⟩
end Tn
namespace Tn
theorem len_1 {α : Type} {us : List α} (h : us.length = 1) : ∃ a, us = [a] := match us, h with | [a], _ => ⟨a, rfl⟩
theorem len_2 {α : Type} {us : List α} (h : us.length = 2) : ∃ a b, us = [a, b] := match us, h with | [a, b], _ => ⟨a, b, rfl⟩
end Tn
namespace L2
open PySem PySem.Spec PyProof.Rows
section
variable {prog : Program} {w : World} {A : Around} {E : Value → Shared → Prop} {s : Shared} {l : Addr} {xs : Array (Int × Tok)}
end
section
variable {X : Cx}
def rInsert : V → List V → Hp → VK → Prop := fun x vs H Q => ∃ (l : Addr) (xs : List V) (k : Nat) (y : V), x = .ref l ∧ vs = [.int (k : Int), y] ∧ H l = some (.lst xs) ∧ k ≤ xs.length ∧ xs.length < 1000000 ∧ Q .non (upd H l (.lst (xs.take k ++ [y] ++ xs.drop k)))
def rExtendT (K : PySem.W.Frag) : V → List V → Hp → VK → Prop := fun x vs H Q => ∃ l b xs zs, x = .ref l ∧ vs = [.ref b] ∧ H l = some (.lst xs) ∧ H b = some (.tup zs) ∧ xs.length + zs.length ≤ sizeLine ∧ Q .non (upd H l (.lst (xs ++ zs)))
inductive DEq (K : PySem.W.Frag) (H : Hp) : Nat → V → V → Bool → Prop where
  | flat {d : Nat} {x y : V} (hx : flatV x = true) (hy : flatV y = true) : DEq K H d x y (eqV x y)
  | same {d : Nat} {a : Addr} : DEq K H d (.ref a) (.ref a) true
  | tup {d : Nat} {a b : Addr} {xs ys : List V} {e : Nat → Bool} (hab : a ≠ b) (ha : SqT K H a xs) (hb : SqT K H b ys) (he : ∀ j x y, xs[j]? = some x → ys[j]? = some y → DEq K H d x y (e j)) : DEq K H (d + 1) (.ref a) (.ref b) ((List.range (min xs.length ys.length)).all e && xs.length == ys.length)
  | tupStr {d : Nat} {a : Addr} {xs : List V} {z : Str} (ha : SqT K H a xs) : DEq K H (d + 1) (.ref a) (.str z) false
theorem deq_all {K : PySem.W.Frag} {H : Hp} {d : Nat} {a b : Addr} {xs ys : List V} {e : Nat → Bool} {k : Bool} (hab : a ≠ b) (ha : SqT K H a xs) (hb : SqT K H b ys) (hl : xs.length = ys.length) (he : ∀ j x y, xs[j]? = some x → ys[j]? = some y → DEq K H d x y (e j)) (hk : (List.range xs.length).all e = k) : DEq K H (d + 1) (.ref a) (.ref b) k := by
  have := DEq.tup hab ha hb he
  rw [← hl, Nat.min_self, hk, beq_self_eq_true, Bool.and_true] at this
  exact this
def rEqD (K : PySem.W.Frag) : R2 := fun x y H Q => ∃ (a b : Addr) (xs ys : List V) (e : Nat → Bool), x = .ref a ∧ y = .ref b ∧ SqT K H a xs ∧ SqT K H b ys ∧ (∀ j x y, xs[j]? = some x → ys[j]? = some y → DEq K H 40 x y (e j)) ∧ Q (.bl ((List.range (min xs.length ys.length)).all e && xs.length == ys.length)) H
def rEqB (K : PySem.W.Frag) (neg : Bool) : R2 := fun x y H Q => ∃ z : Str, y = .str z ∧ ((x = .non ∧ Q (.bl neg) H) ∨ (∃ a xs, x = .ref a ∧ SqT K H a xs ∧ Q (.bl neg) H) ∨ ∃ u, x = .str u ∧ Q (.bl (if neg then !decide (V.str u = V.str z) else decide (V.str u = V.str z))) H)
theorem op_eqB (hu : X.A.units < cLine) : OpR X (compareOp .Eq) (rEqB X.K false) := by
  intro pins s σ H x y v u Q I rx ry h
  obtain ⟨z, rfl, h⟩ := h
  obtain ⟨t, rfl⟩ := ry
  rcases h with ⟨rfl, q⟩ | ⟨a, xs, rfl, ha, q⟩ | ⟨w', rfl, q⟩
  · cases rx
    exact SeqAt.RcAt.none_str z t _ _ _ _ (fin_bl I q rfl)
  · cases rx
    obtain ⟨its, r1, p1, _⟩ := I.tuple ha
    exact SeqAt.RcAt.tuple_str z t (show s.heap.IsTuple a its.toArray from p1) hu _ _ _ _ (fin_bl I q rfl)
  · obtain ⟨t', rfl⟩ := rx
    exact SeqAt.RcAt.str_str w' t' z t _ _ _ _ (fin_bl I q dec_str)
end
end L2
namespace Tn
def mx2 (i j : Int) : Int := if j > i then j else i
def mn2 (i j : Int) : Int := if j < i then j else i
def mxL (l : List Int) : Int := l.foldl mx2 (-1)
def mnL (n : Int) (l : List Int) : Int := l.foldl mn2 n
theorem mxL_snoc (l : List Int) (x : Int) : mxL (l ++ [x]) = mx2 (mxL l) x := by unfold mxL; rw [List.foldl_append]; rfl
theorem mnL_snoc (n : Int) (l : List Int) (x : Int) : mnL n (l ++ [x]) = mn2 (mnL n l) x := by unfold mnL; rw [List.foldl_append]; rfl
theorem mxL_ge : ∀ (l : List Int) (g : Int), g ≤ l.foldl mx2 g ∧ ∀ w ∈ l, w ≤ l.foldl mx2 g
  | [], g => ⟨Int.le_refl _, fun _ h => nomatch h⟩
  | x :: l, g => by
    have h := mxL_ge l (mx2 g x)
    have h2 : g ≤ mx2 g x ∧ x ≤ mx2 g x := by unfold mx2; split <;> omega
    exact ⟨Int.le_trans h2.1 h.1, fun w hw => by
      rcases List.mem_cons.mp hw with rfl | hw
      · exact Int.le_trans h2.2 h.1
      · exact h.2 w hw⟩
theorem mxL_mem : ∀ (l : List Int) (g : Int), l.foldl mx2 g = g ∨ l.foldl mx2 g ∈ l
  | [], _ => .inl rfl
  | x :: l, g => by
    rcases mxL_mem l (mx2 g x) with h | h
    · have h2 : mx2 g x = g ∨ mx2 g x = x := by unfold mx2; split <;> simp
      show l.foldl mx2 (mx2 g x) = g ∨ l.foldl mx2 (mx2 g x) ∈ x :: l
      rw [h]
      rcases h2 with e | e
      · exact .inl e
      · rw [e]; exact .inr List.mem_cons_self
    · exact .inr (List.mem_cons_of_mem _ h)
theorem nd_len : ∀ {l m : List Int}, l.Nodup → (∀ a ∈ l, a ∈ m) → l.length ≤ m.length
  | [], _, _, _ => Nat.zero_le _
  | a :: l, m, nd, hs => by
    obtain ⟨h1, h2⟩ := List.nodup_cons.mp nd
    have ha : a ∈ m := hs a List.mem_cons_self
    have ih := nd_len (l := l) (m := m.erase a) h2 (fun b hb => by
      have hne : b ≠ a := fun e => h1 (e ▸ hb)
      exact (List.mem_erase_of_ne hne).mpr (hs b (List.mem_cons_of_mem _ hb)))
    have := (List.perm_cons_erase ha).length_eq
    simp only [List.length_cons] at this ⊢
    omega
def upB (ord : List Int) (p : Nat) : Bool := (ord.take p).all fun w => decide (w < (p : Int))
def dnB (ord : List Int) (p : Nat) : Bool := (ord.take p).all fun w => decide ((ord.length : Int) - (p : Int) ≤ w)
theorem upB_iff {ord : List Int} {p : Nat} : upB ord p = true ↔ ∀ w ∈ ord.take p, w < (p : Int) := by unfold upB; simp
theorem dnB_iff {ord : List Int} {p : Nat} : dnB ord p = true ↔ ∀ w ∈ ord.take p, (ord.length : Int) - (p : Int) ≤ w := by unfold dnB; simp
def negO (ord : List Int) : List Int := ord.map fun w => (ord.length : Int) - 1 - w
theorem negO_len (ord : List Int) : (negO ord).length = ord.length := by simp [negO]
theorem negO_ord {ord : List Int} (h : IsOrd ord) : IsOrd (negO ord) := by
  constructor
  rw [negO_len]
  refine perm_of_sub ?_ (fun a ha => ?_) (by rw [upto_len, negO_len]; exact Nat.le_refl _)
  · unfold negO
    rw [List.Nodup, List.pairwise_map]
    exact h.nodup.imp fun hne e => hne (by omega)
  · unfold negO at ha
    obtain ⟨w, hw, rfl⟩ := List.mem_map.mp ha
    have := h.mem.mp hw
    exact mem_upto.mpr ⟨by omega, by omega⟩
theorem dn_up (ord : List Int) (p : Nat) : dnB ord p = upB (negO ord) p := by
  rw [Bool.eq_iff_iff, dnB_iff, upB_iff]
  unfold negO
  rw [← List.map_take]
  constructor
  · intro h w hw
    obtain ⟨v, hv, rfl⟩ := List.mem_map.mp hw
    have := h v hv
    omega
  · intro h w hw
    have := h _ (List.mem_map.mpr ⟨w, hw, rfl⟩)
    omega
theorem take_drop_apart {ord : List Int} (h : ord.Nodup) {p : Nat} {a : Int} (h1 : a ∈ ord.take p) (h2 : a ∈ ord.drop p) : False := by
  rw [← List.take_append_drop p ord] at h
  exact (List.nodup_append.mp h).2.2 a h1 a h2 rfl
theorem take_nd {ord : List Int} (h : ord.Nodup) (p : Nat) : (ord.take p).Nodup := h.sublist (List.take_sublist p ord)
theorem up_iff {ord : List Int} (h : IsOrd ord) {p : Nat} (hp : p ≤ ord.length) : upB ord p = true ↔ ∀ a ∈ ord.take p, ∀ b ∈ ord.drop p, a < b := by
  rw [upB_iff]
  constructor
  · intro hu a ha b hb
    have pm : (ord.take p).Perm (upto p) := perm_of_sub (take_nd h.nodup p) (fun w hw => mem_upto.mpr ⟨(h.mem.mp (List.mem_of_mem_take hw)).1, hu w hw⟩) (by rw [upto_len, List.length_take]; omega)
    have hb0 := (h.mem.mp (List.mem_of_mem_drop hb)).1
    by_cases hlt : b < (p : Int)
    · exact absurd hb (fun hb => take_drop_apart h.nodup (pm.mem_iff.mpr (mem_upto.mpr ⟨hb0, hlt⟩)) hb)
    · have := hu a ha
      omega
  · intro hu w hw
    have hw0 := h.mem.mp (List.mem_of_mem_take hw)
    by_cases hlt : w < (p : Int)
    · exact hlt
    · exfalso
      have sub : ∀ v ∈ upto (w.toNat + 1), v ∈ ord.take p := fun v hv => by
        have hv := mem_upto.mp hv
        have hm : v ∈ ord := h.mem.mpr ⟨hv.1, by omega⟩
        rw [← List.take_append_drop p ord] at hm
        rcases List.mem_append.mp hm with hm | hm
        · exact hm
        · have := hu w hw v hm
          omega
      have := nd_len (upto_nodup _) sub
      rw [upto_len, List.length_take] at this
      omega
theorem mx_up {ord : List Int} (h : IsOrd ord) {p : Nat} (h1 : 1 ≤ p) (hp : p ≤ ord.length) : decide (mxL (ord.take p) = (p : Int) - 1) = upB ord p := by
  rw [Bool.eq_iff_iff, decide_eq_true_eq, upB_iff]
  have hge := mxL_ge (ord.take p) (-1)
  constructor
  · intro e w hw
    have := hge.2 w hw
    have e2 : (ord.take p).foldl mx2 (-1) = (p : Int) - 1 := e
    omega
  · intro hu
    have hm : mxL (ord.take p) ∈ ord.take p := by
      rcases mxL_mem (ord.take p) (-1) with e | e
      · exfalso
        have hne : ord.take p ≠ [] := fun z => by
          have := congrArg List.length z
          rw [List.length_take] at this
          simp only [List.length_nil] at this
          omega
        obtain ⟨w, hw⟩ := List.exists_mem_of_ne_nil _ hne
        have := hge.2 w hw
        have := (h.mem.mp (List.mem_of_mem_take hw)).1
        omega
      · exact e
    have hlt := hu _ hm
    have sub : ∀ v ∈ ord.take p, v ∈ upto (mxL (ord.take p) + 1).toNat := fun v hv => by
      have := hge.2 v hv
      have h0 := (h.mem.mp (List.mem_of_mem_take hv)).1
      have e2 : (ord.take p).foldl mx2 (-1) = mxL (ord.take p) := rfl
      exact mem_upto.mpr ⟨h0, by omega⟩
    have := nd_len (take_nd h.nodup p) sub
    rw [upto_len, List.length_take] at this
    omega
theorem mn_neg (n : Int) : ∀ (l : List Int) (g : Int), (l.map fun w => n - 1 - w).foldl mx2 (n - 1 - g) = n - 1 - l.foldl mn2 g
  | [], _ => rfl
  | x :: l, g => by
    show (l.map fun w => n - 1 - w).foldl mx2 (mx2 (n - 1 - g) (n - 1 - x)) = n - 1 - l.foldl mn2 (mn2 g x)
    rw [← mn_neg n l]
    congr 1
    unfold mx2 mn2
    split <;> split <;> omega
theorem mn_dn {ord : List Int} (h : IsOrd ord) {p : Nat} (h1 : 1 ≤ p) (hp : p ≤ ord.length) : decide (mnL ord.length (ord.take p) = (ord.length : Int) - (p : Int)) = dnB ord p := by
  rw [dn_up, ← mx_up (negO_ord h) h1 (by rw [negO_len]; exact hp)]
  unfold negO mxL mnL
  rw [← List.map_take, show ((-1 : Int)) = (ord.length : Int) - 1 - (ord.length : Int) by omega, mn_neg]
  congr 1
  simp only [eq_iff_iff]
  omega
theorem dn_iff {ord : List Int} (h : IsOrd ord) {p : Nat} (hp : p ≤ ord.length) : dnB ord p = true ↔ ∀ a ∈ ord.take p, ∀ b ∈ ord.drop p, b < a := by
  rw [dn_up, up_iff (negO_ord h) (by rw [negO_len]; exact hp)]
  unfold negO
  rw [← List.map_take, ← List.map_drop]
  constructor
  · intro hu a ha b hb
    have := hu _ (List.mem_map.mpr ⟨a, ha, rfl⟩) _ (List.mem_map.mpr ⟨b, hb, rfl⟩)
    omega
  · intro hu a ha b hb
    obtain ⟨a', ha', rfl⟩ := List.mem_map.mp ha
    obtain ⟨b', hb', rfl⟩ := List.mem_map.mp hb
    have := hu a' ha' b' hb'
    omega
def places (ord : List Int) (q : Nat → Bool) (k : Nat) : List Nat := ((List.range k).map (· + 1)).filter q
def risF (ord : List Int) : List Nat := places ord (upB ord) (ord.length - 1)
def falF (ord : List Int) : List Nat := places ord (dnB ord) (ord.length - 1)
theorem places_succ (ord : List Int) (q : Nat → Bool) (k : Nat) : places ord q (k + 1) = places ord q k ++ (if q (k + 1) = true then [k + 1] else []) := by
  unfold places
  rw [List.range_succ, List.map_append, List.filter_append]
  congr 1
  show List.filter q [k + 1] = _
  by_cases h : q (k + 1) = true
  · rw [List.filter_cons_of_pos h, if_pos h]; rfl
  · rw [List.filter_cons_of_neg h, if_neg h]; rfl
theorem places_len (ord : List Int) (q : Nat → Bool) (k : Nat) : (places ord q k).length ≤ k := by
  unfold places
  refine Nat.le_trans (List.length_filter_le _ _) ?_
  rw [List.length_map, List.length_range]
  exact Nat.le_refl _
end Tn
namespace Tn
def RiseAt (l : List Int) (p : Nat) : Prop := ∀ a ∈ l.take p, ∀ b ∈ l.drop p, a < b
def FallAt (l : List Int) (p : Nat) : Prop := ∀ a ∈ l.take p, ∀ b ∈ l.drop p, b < a
def Bar1 (w x y z : Int) : Prop := y < w ∧ w < z ∧ z < x
def Bar2 (w x y z : Int) : Prop := x < z ∧ z < w ∧ w < y
def HasBar (l : List Int) : Prop := ∃ (i j k m : Nat) (w x y z : Int), i < j ∧ j < k ∧ k < m ∧ l[i]? = some w ∧ l[j]? = some x ∧ l[k]? = some y ∧ l[m]? = some z ∧ (Bar1 w x y z ∨ Bar2 w x y z)
theorem HasBar.snoc {l : List Int} (v : Int) (h : HasBar l) : HasBar (l ++ [v]) := by
  obtain ⟨i, j, k, m, w, x, y, z, h1, h2, h3, e1, e2, e3, e4, hb⟩ := h
  have up : ∀ {n : Nat} {u : Int}, l[n]? = some u → (l ++ [v])[n]? = some u := fun e => by
    rw [List.getElem?_append_left (List.getElem?_eq_some_iff.mp e).1]; exact e
  exact ⟨i, j, k, m, w, x, y, z, h1, h2, h3, up e1, up e2, up e3, up e4, hb⟩
end Tn
namespace L2
open PySem PySem.Spec PyProof.Rows
section
variable {X : Cx}
theorem bool_items : ∀ {bs : List Bool} {its : List Value}, Vals (bs.map V.bl) its → its = bs.map Value.bool
  | [], _, .nil => rfl
  | b :: bs, _, .cons r t => by cases r; rw [bool_items t]; rfl
theorem call_allL (hc : X.calm = true) : CallR X (.builtin "all") (fun vs H Q => ∃ (p : Addr) (bs : List Bool), vs = [.ref p] ∧ SqL X.K H p (bs.map V.bl) ∧ Q (.bl ((List.range bs.length).all fun i => bs.getD i true)) H) := by
  intro pins s σ H xs us Q I r h
  obtain ⟨p, bs, rfl, hp, q⟩ := h
  obtain ⟨u, rfl, rx⟩ := vals1 r
  cases rx
  obtain ⟨its, rv, pl, _⟩ := I.list hp
  have hb := bool_items rv
  subst hb
  have hl : s.heap.IsList p (bs.map Value.bool).toArray := pl.isList
  have hlt : p < s.heap.objs.size := by obtain ⟨_, e, _⟩ := hl; exact Heap.lt_size e
  refine call_all_walk (wpAny_pyIter_list hl ⟨_, _, _, _, _, _, fun i => bs.getD i true, rfl, Walks.list (A := X.A.in1) (I.ok.hd hc) _ p (Nat.ne_of_lt hlt) (bs.map Value.bool).toArray, ⟨⟨_, Heap.get?_push_size _ rfl, rfl, rfl⟩, hl.push _⟩, ?_, fun h' tk hk => ?_⟩)
  · intro i v s' Q' E' hP hq
    have hP : (bs.map Value.bool).toArray[i]? = some v := hP
    rw [List.getElem?_toArray, List.getElem?_map] at hP
    cases hbi : bs[i]? with
    | none => rw [hbi] at hP; cases hP
    | some b =>
      rw [hbi] at hP
      cases hP
      have : bs.getD i true = b := by rw [List.getD_eq_getElem?_getD, hbi]; rfl
      have hq : Q' (bs.getD i true) s' := hq
      rw [this] at hq
      exact wpAny_truthy_bool hq
  · have kp : ∀ b o, s.heap.get? b = some o → h'.get? b = some o := fun b o e => hk b o (fun hm => by
      have z : b = s.heap.objs.size := by simpa using hm
      rw [z] at e; exact absurd (Heap.lt_size e) (Nat.lt_irrefl _)) (Heap.get?_push_of_some _ e)
    refine ⟨.bl _, H, I.kept kp, rfl, ?_⟩
    rw [List.size_toArray, List.length_map]
    exact q
end
end L2
namespace Tn
open PySem L2
theorem boot_all : bootBuiltins "all" = some (.builtin "all") := by decide +kernel
mutual
def rowN : Nest → Int → List Int
  | .word, f => [f]
  | .knot k ps, f => (if k then rowsN ps f else (rowsN ps f).reverse).flatten
  | .bad, _ => []
def rowsN : List Nest → Int → List (List Int)
  | [], _ => []
  | n :: r, f => rowN n f :: rowsN r (f + ((rowN n f).length : Int))
end
theorem flat_rev_perm (l : List (List Int)) : l.reverse.flatten.Perm l.flatten := by
  induction l with
  | nil => exact .refl _
  | cons a l ih =>
    rw [List.reverse_cons, List.flatten_append, List.flatten_cons, List.flatten_cons, List.flatten_nil, List.append_nil]
    exact List.perm_append_comm.trans (List.Perm.append_left a ih)
def fromTo (f : Int) (n : Nat) : List Int := (upto n).map fun z => f + z
theorem fromTo_add (f : Int) (a b : Nat) : fromTo f (a + b) = fromTo f a ++ fromTo (f + (a : Int)) b := by
  unfold fromTo upto
  rw [List.range_add, List.map_append, List.map_append, List.map_map, List.map_map, List.map_map, List.map_map]
  congr 1
  apply List.map_congr_left
  intro i _
  show f + ((a + i : Nat) : Int) = f + (a : Int) + (i : Int)
  omega
mutual
theorem row_perm : ∀ (n : Nest) (o : Option Bool) (f : Int), valid o n = true → (rowN n f).Perm (fromTo f (words n))
  | .word, _, f, _ => by
    rw [rowN, words]
    show [f].Perm [f + 0]
    rw [Int.add_zero]
  | .knot k ps, o, f, h => by
    have hv : validL k ps = true := by simp only [valid, Bool.and_eq_true] at h; exact h.2
    have ih := rows_perm ps k f hv
    rw [rowN, words]
    cases k
    · exact (flat_rev_perm _).trans ih
    · exact ih
  | .bad, _, _, h => by simp [valid] at h
theorem rows_perm : ∀ (ps : List Nest) (k : Bool) (f : Int), validL k ps = true → (rowsN ps f).flatten.Perm (fromTo f (wordsL ps))
  | [], _, f, _ => by rw [rowsN, wordsL]; exact .refl _
  | n :: r, k, f, h => by
    simp only [validL, Bool.and_eq_true] at h
    have h1 := row_perm n (some k) f h.1
    have hl : (rowN n f).length = words n := by rw [h1.length_eq]; simp [fromTo, upto]
    have h2 := rows_perm r k (f + ((rowN n f).length : Int)) h.2
    rw [rowsN, wordsL, List.flatten_cons, fromTo_add]
    rw [hl] at h2 ⊢
    exact h1.append h2
end
theorem row_len {n : Nest} {o : Option Bool} (f : Int) (h : valid o n = true) : (rowN n f).length = words n := by
  rw [(row_perm n o f h).length_eq]; simp [fromTo, upto]
theorem row_ord {n : Nest} {o : Option Bool} (h : valid o n = true) : IsOrd (rowN n 0) ∧ (rowN n 0).length = words n := by
  have := row_perm n o 0 h
  refine IsOrd.of_perm (this.trans ?_)
  unfold fromTo
  rw [show (fun z : Int => 0 + z) = id by funext z; exact Int.zero_add z, List.map_id]
def spRow (K : PySem.W.Frag) (d : Nat) : Sp := fun vs H Q _ => ∃ (v : V) (n : Nest) (o : Option Bool) (f : Int), vs = [v, .int f] ∧ NestAt K H n v ∧ valid o n = true ∧ depthN n < d ∧ words n ≤ 1000 ∧ ∀ (p : Addr) (H' : Hp), H p = none → H' p = some (.lst ((rowN n f).map V.int)) → Same H H' → Q (.ref p) H'
def partsOf (k : Bool) : Nest → List Nest
  | .knot k' ps => if k' = k then ps else [.knot k' ps]
  | n => [n]
def spJoin (K : PySem.W.Frag) : Sp := fun vs H Q _ => ∃ (k : Bool) (x y : V) (m n : Nest), vs = [.str (kS k), x, y] ∧ NestAt K H m x ∧ NestAt K H n y ∧ valid none m = true ∧ valid none n = true ∧ words m + words n ≤ 900 ∧ ∀ (v : V) (H' : Hp), NestAt K H' (.knot k (partsOf k m ++ partsOf k n)) v → Same H H' → Q v H'
theorem valid_some {k : Bool} : ∀ {n : Nest}, valid none n = true → (∀ ps, n ≠ .knot k ps) → valid (some k) n = true
  | .word, _, _ => rfl
  | .knot k' ps, h, hn => by
    simp only [valid, Bool.and_eq_true] at h ⊢
    refine ⟨?_, h.2⟩
    have : k' ≠ k := fun e => hn ps (by rw [e])
    simp [this.symm, Ne.symm this]
  | .bad, h, _ => by simp [valid] at h
theorem parts_valid {k : Bool} {n : Nest} (h : valid none n = true) : validL k (partsOf k n) = true ∧ wordsL (partsOf k n) = words n := by
  cases n with
  | word => exact ⟨rfl, rfl⟩
  | bad => simp [valid] at h
  | knot k' ps =>
    unfold partsOf
    by_cases e : k' = k
    · subst e
      dsimp only
      rw [if_pos rfl]
      simp only [valid, Bool.and_eq_true] at h
      exact ⟨h.2, by rw [words]⟩
    · dsimp only
      rw [if_neg e]
      refine ⟨?_, by simp [wordsL]⟩
      simp only [validL, Bool.and_true]
      exact valid_some h fun ps' z => e (by injection z)
def spLNest (K : PySem.W.Frag) : Sp := fun vs H Q _ => ∃ (l : Addr) (cs : List Int), vs = [.ref l] ∧ SqL K H l (cs.map V.int) ∧ cs.length ≤ 100 ∧ ∀ (n : Nest) (v : V) (H' : Hp), NestAt K H' n v → valid none n = true → words n = cs.length + 1 → Same H H' → Q v H'
def spFree (K : PySem.W.Frag) : Sp := fun vs H Q _ => ∃ (l : Addr) (cs : List Int), vs = [.ref l] ∧ SqL K H l (cs.map V.int) ∧ 1 ≤ cs.length ∧ cs.length ≤ 100 ∧ ∀ (p : Addr) (ord : List Int) (H' : Hp), H p = none → H' p = some (.lst (ord.map V.int)) → IsOrd ord → ord.length = cs.length → Same H H' → Q (.ref p) H'
def spLOrd (K : PySem.W.Frag) : Sp := fun vs H Q _ => ∃ (a : Addr) (ns : List Int), vs = [.ref a] ∧ SqL K H a (ns.map V.int) ∧ ns.length ≤ 63 ∧ ∀ (p : Addr) (ord : List Int) (H' : Hp), H p = none → H' p = some (.tup (ord.map V.int)) → IsOrd ord → 1 ≤ ord.length → ord.length ≤ 60 → Same H H' → Q (.ref p) H'
def LstsAt (H : Hp) (ps : List Addr) (xss : List (List Int)) : Prop := Paired (fun p xs => H p = some (.lst (xs.map V.int))) ps xss
theorem LstsAt.len {H : Hp} : ∀ {ps : List Addr} {xss : List (List Int)}, LstsAt H ps xss → ps.length = xss.length
  | _, _, .nil => rfl
  | _, _, .cons _ t => congrArg (· + 1) (LstsAt.len t)
theorem LstsAt.get {H : Hp} : ∀ {ps : List Addr} {xss : List (List Int)} {i : Nat} {p : Addr}, LstsAt H ps xss → ps[i]? = some p → ∃ xs, xss[i]? = some xs ∧ H p = some (.lst (xs.map V.int))
  | _, _, _, _, .nil, e => by simp at e
  | _, _, 0, _, .cons h _, e => by simp at e; subst e; exact ⟨_, rfl, h⟩
  | _, _, i + 1, p, .cons _ t, e => by
    obtain ⟨x, h1, h2⟩ := LstsAt.get (i := i) (p := p) t (by simpa using e)
    exact ⟨x, by simpa using h1, h2⟩
theorem LstsAt.mono {H H' : Hp} (s : Same H H') : ∀ {ps : List Addr} {xss : List (List Int)}, LstsAt H ps xss → LstsAt H' ps xss
  | _, _, .nil => .nil
  | _, _, .cons h t => .cons (s _ _ h) (LstsAt.mono s t)
theorem LstsAt.upd {H : Hp} {l : Addr} {o : HO} : ∀ {ps : List Addr} {xss : List (List Int)}, l ∉ ps → LstsAt H ps xss → LstsAt (L2.upd H l o) ps xss
  | _, _, _, .nil => .nil
  | p :: _, _ :: _, hn, .cons h t => .cons (by rw [upd_ne (fun z => hn (by rw [← z]; exact List.mem_cons_self))]; exact h) (LstsAt.upd (fun z => hn (List.mem_cons_of_mem _ z)) t)
theorem LstsAt.app {H : Hp} : ∀ {ps qs : List Addr} {xss yss : List (List Int)}, LstsAt H ps xss → LstsAt H qs yss → LstsAt H (ps ++ qs) (xss ++ yss)
  | _, _, _, _, .nil, h => h
  | _, _, _, _, .cons a t, h => .cons a (LstsAt.app t h)
theorem LstsAt.rev {H : Hp} : ∀ {ps : List Addr} {xss : List (List Int)}, LstsAt H ps xss → LstsAt H ps.reverse xss.reverse
  | _, _, .nil => .nil
  | _, _, .cons a t => by
    rw [List.reverse_cons, List.reverse_cons]
    exact LstsAt.app (LstsAt.rev t) (.cons a .nil)
theorem wordsL_at : ∀ {ps : List Nest} {i : Nat} {n : Nest}, ps[i]? = some n → words n ≤ wordsL ps
  | [], _, _, h => by simp at h
  | m :: r, 0, n, h => by simp at h; subst h; rw [wordsL]; omega
  | m :: r, i + 1, n, h => by have := wordsL_at (ps := r) (i := i) (n := n) (by simpa using h); rw [wordsL]; omega
def natV (l : List Nat) : List V := l.map fun (n : Nat) => V.int (n : Int)
def cutF (ord : List Int) : Str × List Nat := if risF ord = [] then (if falF ord = [] then ("", []) else ("-", falF ord)) else ("+", risF ord)
def CutAt (H : Hp) (c : Str × List Nat) (t p : Addr) : Prop := H t = some (.tup [.str c.1, .ref p]) ∧ H p = some (.tup (natV c.2))
def spCuts (K : PySem.W.Frag) : Sp := fun vs H Q _ => ∃ (o : Addr) (ord : List Int), vs = [.ref o] ∧ SqT K H o (ord.map V.int) ∧ IsOrd ord ∧ 1 ≤ ord.length ∧ ord.length ≤ 1000 ∧ ∀ (t p : Addr) (H' : Hp), H t = none → H p = none → CutAt H' (cutF ord) t p → Same H H' → Q (.ref t) H'
def spTold21 (K : PySem.W.Frag) : Sp := fun vs H Q _ => ∃ (o : Addr) (ord : List Int), vs = [.ref o] ∧ SqT K H o (ord.map V.int) ∧ IsOrd ord ∧ 1 ≤ ord.length ∧ ord.length ≤ 1000 ∧ ∀ H', Same H H' → Q (.bl true) H'
end Tn
namespace Tn
open PySem PySem.Spec PyProof.Rows
theorem nz {n : Nat} (i j : Nat) (h : (i == j) = false := by decide) : n + i ≠ n + j := fun z => by
  have : i = j := by omega
  rw [this] at h
  simp at h
section
variable {prog : Program} {w : World} {A : Around} {E : Value → Shared → Prop} {s : Shared} {n : Nat} {t1 t2 : Addr} {k : Nat} {xs ys : Array Value} {x y a b : Value}
theorem zipT_item {Q : Value → Shared → Prop} (d1 : t1 ≠ n + 4) (d2 : t2 ≠ n + 4 ∧ t2 ≠ n + 3 ∧ t2 ≠ n + 0) (hz : IsZip s.heap (n + 4) (n + 2) (n + 3) .none) (hTI : IsPair s.heap (n + 2) (.ref (n + 0)) (.ref (n + 1))) (hTO : IsPair s.heap (n + 3) a b)
    (h1 : s.heap.IsTupleIter (n + 0) t1 k) (h2 : s.heap.IsTupleIter (n + 1) t2 k) (p1 : s.heap.IsTuple t1 xs) (p2 : s.heap.IsTuple t2 ys) (hx : xs[k]? = some x) (hy : ys[k]? = some y)
    (hQ : ∀ h', IsZip h' (n + 4) (n + 2) (n + 3) (rawInt s.heap.objs.size) → IsPair h' (n + 3) x y → h'.IsTupleIter (n + 0) t1 (k + 1) → h'.IsTupleIter (n + 1) t2 (k + 1) → IsPair h' s.heap.objs.size x y →
      (∀ c o, c ≠ n + 4 → c ≠ n + 3 → c ≠ n + 0 → c ≠ n + 1 → s.heap.get? c = some o → h'.get? c = some o) → Q (.ref s.heap.objs.size) { s with heap := h' }) :
    wpAny (model prog w) A (Builtin.«zip.__next__» ⟨[.ref (n + 4)], []⟩) (fun fin s' => ∃ v, fin = .done (.ret v) ∧ Q v s') E s := by
  show wpAny _ _ (field (.ref (n + 4)) 2 >>= _) _ _ _
  refine wpAny_bind (wpAny_field hz rfl (x := .bool false) rfl ?_)
  show wpAny _ _ (field (.ref (n + 4)) 3 >>= _) _ _ _
  refine wpAny_bind (wpAny_field hz rfl (x := .ref (n + 2)) rfl ?_)
  refine wpAny_bind (wpAny_seqItems hTI rfl ?_)
  show wpAny _ _ (Builtin.SmallTypes.ownedTupleIsFree (.ref (n + 4)) >>= _) _ _ _
  refine wpAny_bind ?_
  unfold Builtin.SmallTypes.ownedTupleIsFree
  refine wpAny_bind (wpAny_field hz rfl (x := .none) rfl (wpAny_pure ?_))
  simp only [if_true]
  refine wpAny_bind (wpAny_rule ?_)
  refine wpAny_bind (wpAny_field hz rfl (x := .ref (n + 3)) rfl ?_)
  refine wpAny_bind (wpAny_setField_rec hz (by simp) fun g1 z1 s1 => ?_)
  replace z1 : IsZip g1 (n + 4) (n + 2) (n + 3) .ellipsis := z1
  refine wpAny_bind ?_
  simp only [List.zipIdx_cons, List.zipIdx_nil, List.forIn_cons, List.forIn_nil]
  refine wpAny_bind (wpAny_bind (wpAny_onRaise ?_))
  show wpAny _ _ (Builtin.SmallTypes.nextOf (.ref (n + 0)) >>= _) _ _ _
  refine wpAny_bind (nextT_item (tupIter_at h1 fun o e => s1.extBut _ _ (nz 0 4) e) (tup_at p1 fun o e => s1.extBut _ _ d1 e) hx fun g2 i2 s2 => wpAny_pure ?_)
  have o2 : IsPair g2 (n + 3) a b := s2.extBut _ _ (nz 3 0) (s1.extBut _ _ (nz 3 4) hTO)
  refine wpAny_bind (wpAny_seqItems o2 rfl ?_)
  refine wpAny_bind (wpAny_updateSeq_pair o2 fun g3 o3 s3 => ?_)
  replace o3 : IsPair g3 (n + 3) x b := o3
  refine wpAny_bind (wpAny_letGo (wpAny_pure ?_))
  refine wpAny_bind (wpAny_bind (wpAny_onRaise ?_))
  show wpAny _ _ (Builtin.SmallTypes.nextOf (.ref (n + 1)) >>= _) _ _ _
  have up3 : ∀ c o, c ≠ n + 4 → c ≠ n + 3 → c ≠ n + 0 → s.heap.get? c = some o → g3.get? c = some o := fun c o c4 c3 c0 e => s3.extBut _ _ c3 (s2.extBut _ _ c0 (s1.extBut _ _ c4 e))
  refine wpAny_bind (nextT_item (tupIter_at h2 fun o e => up3 _ o (nz 1 4) (nz 1 3) (nz 1 0) e) (tup_at p2 fun o e => up3 _ o d2.1 d2.2.1 d2.2.2 e) hy fun g4 i4 s4 => wpAny_pure ?_)
  have o4 : IsPair g4 (n + 3) x b := s4.extBut _ _ (nz 3 1) o3
  refine wpAny_bind (wpAny_seqItems o4 rfl ?_)
  refine wpAny_bind (wpAny_updateSeq_pair o4 fun g5 o5 s5 => ?_)
  replace o5 : IsPair g5 (n + 3) x y := o5
  refine wpAny_bind (wpAny_letGo (wpAny_pure (wpAny_pure ?_)))
  refine wpAny_bind (wpAny_seqItems o5 rfl ?_)
  refine wpAny_bind (wpAny_newTuple ?_)
  have hsz : g5.objs.size = s.heap.objs.size := by rw [s5.1, s4.1, s3.1, s2.1, s1.1]
  have z5 : IsZip g5 (n + 4) (n + 2) (n + 3) .ellipsis := s5.extBut _ _ (nz 4 3) (s4.extBut _ _ (nz 4 1) (s3.extBut _ _ (nz 4 3) (s2.extBut _ _ (nz 4 0) z1)))
  have up5 : ∀ c o, c ≠ n + 4 → c ≠ n + 3 → c ≠ n + 0 → c ≠ n + 1 → s.heap.get? c = some o → g5.get? c = some o := fun c o c4 c3 c0 c1 e => s5.extBut _ _ c3 (s4.extBut _ _ c1 (up3 c o c4 c3 c0 e))
  have i5 : g5.IsTupleIter (n + 0) t1 (k + 1) := tupIter_at i2 fun o e => s5.extBut _ _ (nz 0 3) (s4.extBut _ _ (nz 0 1) (s3.extBut _ _ (nz 0 3) e))
  have j5 : g5.IsTupleIter (n + 1) t2 (k + 1) := tupIter_at i4 fun o e => s5.extBut _ _ (nz 1 3) e
  have zlt : n + 4 < g5.objs.size := Heap.lt_size z5
  show wpAny _ _ (Builtin.SmallTypes.ownedTupleHandOut (.ref (n + 4)) (.ref g5.objs.size) >>= _) _ _ _
  refine wpAny_bind ?_
  unfold Builtin.SmallTypes.ownedTupleHandOut
  have z6 : IsZip (g5.push { cls := .type "tuple", data := .seq #[x, y] }) (n + 4) (n + 2) (n + 3) .ellipsis := Heap.get?_push_of_some _ z5
  refine wpAny_bind (wpAny_setField_rec z6 (by simp) fun g7 z7 s7 => ?_)
  replace z7 : IsZip g7 (n + 4) (n + 2) (n + 3) (rawInt g5.objs.size) := z7
  refine wpAny_setField_rec z7 (by simp) fun g8 z8 s8 => ?_
  replace z8 : IsZip g8 (n + 4) (n + 2) (n + 3) (rawInt g5.objs.size) := z8
  have up8 : ∀ c o, c ≠ n + 4 → g5.get? c = some o → g8.get? c = some o := fun c o c4 e => s8.extBut _ _ c4 (s7.extBut _ _ c4 (Heap.get?_push_of_some _ e))
  have t8 : IsPair g8 g5.objs.size x y := s8.extBut _ _ (Nat.ne_of_gt zlt) (s7.extBut _ _ (Nat.ne_of_gt zlt) (Heap.get?_push_size _ rfl))
  rw [hsz] at z8 t8
  refine wpAny_pure ⟨_, rfl, ?_⟩
  show Q (.ref g5.objs.size) _
  rw [hsz]
  exact hQ g8 z8 (up8 _ _ (nz 3 4) o5) (tupIter_at i5 fun o e => up8 _ o (nz 0 4) e) (tupIter_at j5 fun o e => up8 _ o (nz 1 4) e) t8 fun c o c4 c3 c0 c1 e => up8 c o c4 (up5 c o c4 c3 c0 c1 e)
theorem zipT_end {Q : Fin → Shared → Prop} (hh : A.handled = none) (d1 : t1 ≠ n + 4) (hz : IsZip s.heap (n + 4) (n + 2) (n + 3) .none) (hTI : IsPair s.heap (n + 2) (.ref (n + 0)) (.ref (n + 1)))
    (h1 : s.heap.IsTupleIter (n + 0) t1 k) (p1 : s.heap.IsTuple t1 xs) (hx : xs[k]? = none)
    (hE : ∀ h' e, (∀ c o, c ≠ n + 4 → c ≠ n + 0 → s.heap.get? c = some o → h'.get? c = some o) → (∃ o, h'.get? e = some o ∧ o.cls = .type "StopIteration") → E (.ref e) { s with heap := h' }) :
    wpAny (model prog w) A (Builtin.«zip.__next__» ⟨[.ref (n + 4)], []⟩) Q E s := by
  show wpAny _ _ (field (.ref (n + 4)) 2 >>= _) _ _ _
  refine wpAny_bind (wpAny_field hz rfl (x := .bool false) rfl ?_)
  show wpAny _ _ (field (.ref (n + 4)) 3 >>= _) _ _ _
  refine wpAny_bind (wpAny_field hz rfl (x := .ref (n + 2)) rfl ?_)
  refine wpAny_bind (wpAny_seqItems hTI rfl ?_)
  show wpAny _ _ (Builtin.SmallTypes.ownedTupleIsFree (.ref (n + 4)) >>= _) _ _ _
  refine wpAny_bind ?_
  unfold Builtin.SmallTypes.ownedTupleIsFree
  refine wpAny_bind (wpAny_field hz rfl (x := .none) rfl (wpAny_pure ?_))
  simp only [if_true]
  refine wpAny_bind (wpAny_rule ?_)
  refine wpAny_bind (wpAny_field hz rfl (x := .ref (n + 3)) rfl ?_)
  refine wpAny_bind (wpAny_setField_rec hz (by simp) fun g1 z1 s1 => ?_)
  replace z1 : IsZip g1 (n + 4) (n + 2) (n + 3) .ellipsis := z1
  refine wpAny_bind ?_
  simp only [List.zipIdx_cons, List.zipIdx_nil, List.forIn_cons, List.forIn_nil]
  refine wpAny_bind (wpAny_bind (wpAny_onRaise ?_))
  show wpAny _ _ (Builtin.SmallTypes.nextOf (.ref (n + 0)) >>= _) _ _ _
  refine wpAny_bind (nextT_end hh (tupIter_at h1 fun o e => s1.extBut _ _ (nz 0 4) e) (tup_at p1 fun o e => s1.extBut _ _ d1 e) hx fun g2 e s2 he => ?_)
  obtain ⟨oe, hoe, hce⟩ := he
  have z2 : IsZip g2 (n + 4) (n + 2) (n + 3) .ellipsis := s2 _ _ (nz 4 0) z1
  have hez : e ≠ n + 4 := fun u => by subst u; rw [z2] at hoe; cases hoe; simp at hce
  exact wpAny_setField_rec z2 (by simp) fun g3 _ s3 => hE g3 e (fun c o c4 c0 u => s3.extBut _ _ c4 (s2 _ _ c0 (s1.extBut _ _ c4 u))) ⟨oe, s3.extBut _ _ hez hoe, hce⟩
theorem nextZ_item {Q : Option Value → Shared → Prop} (d1 : t1 ≠ n + 4) (d2 : t2 ≠ n + 4 ∧ t2 ≠ n + 3 ∧ t2 ≠ n + 0) (hz : IsZip s.heap (n + 4) (n + 2) (n + 3) .none) (hTI : IsPair s.heap (n + 2) (.ref (n + 0)) (.ref (n + 1))) (hTO : IsPair s.heap (n + 3) a b)
    (h1 : s.heap.IsTupleIter (n + 0) t1 k) (h2 : s.heap.IsTupleIter (n + 1) t2 k) (p1 : s.heap.IsTuple t1 xs) (p2 : s.heap.IsTuple t2 ys) (hx : xs[k]? = some x) (hy : ys[k]? = some y)
    (hQ : ∀ h', IsZip h' (n + 4) (n + 2) (n + 3) (rawInt s.heap.objs.size) → IsPair h' (n + 3) x y → h'.IsTupleIter (n + 0) t1 (k + 1) → h'.IsTupleIter (n + 1) t2 (k + 1) → IsPair h' s.heap.objs.size x y →
      (∀ c o, c ≠ n + 4 → c ≠ n + 3 → c ≠ n + 0 → c ≠ n + 1 → s.heap.get? c = some o → h'.get? c = some o) → Q (some (.ref s.heap.objs.size)) { s with heap := h' }) :
    wpAny (model prog w) A (pyNext (.ref (n + 4))) Q E s := by
  have hT : s.TypeIs (.ref (n + 4)) "zip" := ⟨_, hz, rfl⟩
  unfold pyNext
  exact wpAny_bind (wpAny_attempt (wpAny_callSpecial?_slot (name := Str.ofString "__next__") hT F.slot_zip_next
    (wpAny_call_entry F.slot_zip_next hT F.entry_zip_next (zipT_item d1 d2 hz hTI hTO h1 h2 p1 p2 hx hy fun h' a1 a2 a3 a4 a5 a6 => wpAny_pure (hQ h' a1 a2 a3 a4 a5 a6)) (F.args_zip_next_1 _))))
theorem nextZ_end {Q : Option Value → Shared → Prop} (hh : A.handled = none) (d1 : t1 ≠ n + 4) (hz : IsZip s.heap (n + 4) (n + 2) (n + 3) .none) (hTI : IsPair s.heap (n + 2) (.ref (n + 0)) (.ref (n + 1)))
    (h1 : s.heap.IsTupleIter (n + 0) t1 k) (p1 : s.heap.IsTuple t1 xs) (hx : xs[k]? = none)
    (hQ : ∀ h', (∀ c o, c ≠ n + 4 → c ≠ n + 0 → s.heap.get? c = some o → h'.get? c = some o) → Q none { s with heap := h' }) : wpAny (model prog w) A (pyNext (.ref (n + 4))) Q E s := by
  have hT : s.TypeIs (.ref (n + 4)) "zip" := ⟨_, hz, rfl⟩
  unfold pyNext
  refine wpAny_bind (wpAny_attempt (wpAny_callSpecial?_slot (name := Str.ofString "__next__") hT F.slot_zip_next
    (wpAny_call_entry F.slot_zip_next hT F.entry_zip_next (zipT_end hh d1 hz hTI h1 p1 hx fun h' e hk he => ?_) (F.args_zip_next_1 _))))
  obtain ⟨o, ho, hc⟩ := he
  refine wpAny_bind (wpAny_isInstance (T := "StopIteration") (b := true) ⟨o, ho, hc⟩ isSubtype_stop ?_)
  exact wpAny_pure (hQ _ hk)
end
def zA (h : Heap) (t1 : Addr) : Heap := h.push { cls := .type "tuple_iterator", data := .fields #[.ref t1, .int 0 0] }
def zB (h : Heap) (t1 t2 : Addr) : Heap := (zA h t1).push { cls := .type "tuple_iterator", data := .fields #[.ref t2, .int 0 0] }
def zC (h : Heap) (t1 t2 : Addr) : Heap := ((zB h t1 t2).push { cls := .type "tuple", data := .seq #[.ref h.objs.size, .ref (zA h t1).objs.size] }).push { cls := .type "tuple", data := .seq #[.none, .none] }
theorem zipT_new (t1 t2 : Addr) (xs ys : Array Value) :
    Meets (Builtin.«zip.__new__» ⟨[.type "zip", .ref t1, .ref t2], []⟩) (fun _ R s => s.heap.IsTuple t1 xs ∧ s.heap.IsTuple t2 ys ∧
      R (.ok (.ret (.ref (zC s.heap t1 t2).objs.size))) { s with heap := (zC s.heap t1 t2).push { cls := .type "zip", data := .fields #[.none, .bool false, .bool false, .ref (zB s.heap t1 t2).objs.size, .ref ((zB s.heap t1 t2).push { cls := .type "tuple", data := .seq #[.ref s.heap.objs.size, .ref (zA s.heap t1).objs.size] }).objs.size] } }) :=
  .of_wp fun prog w A R s h => by
    obtain ⟨hp, g, d, tk, os⟩ := s; obtain ⟨hl1, hl2, h⟩ := h
    have hsub := sub_zip
    have hL1 : Heap.IsTuple (Shared.heap ⟨hp, g, d, tk, os⟩) t1 xs := hl1
    have hL2 : Heap.IsTuple (Shared.heap ⟨hp.push { cls := .type "tuple_iterator", data := .fields #[.ref t1, .int 0 0] }, g, d, tk, os⟩) t2 ys := tup_at hl2 fun o e => Heap.get?_push_of_some _ e
    wp_walk using wpAny_pyIter_tuple hL1, wpAny_pyIter_tuple hL2
    exact ⟨_, rfl, h⟩
theorem call_zipT {prog : Program} {w : World} {A : Around} {E : Value → Shared → Prop} {s : Shared} {t1 t2 : Addr} {xs ys : Array Value} {Q : Value → Shared → Prop} (hl1 : s.heap.IsTuple t1 xs) (hl2 : s.heap.IsTuple t2 ys)
    (h : ∀ h', IsZip h' (s.heap.objs.size + 4) (s.heap.objs.size + 2) (s.heap.objs.size + 3) .none → IsPair h' (s.heap.objs.size + 2) (.ref (s.heap.objs.size + 0)) (.ref (s.heap.objs.size + 1)) →
      IsPair h' (s.heap.objs.size + 3) .none .none → h'.IsTupleIter (s.heap.objs.size + 0) t1 0 → h'.IsTupleIter (s.heap.objs.size + 1) t2 0 →
      (∀ c o, s.heap.get? c = some o → h'.get? c = some o) → Q (.ref (s.heap.objs.size + 4)) { s with heap := h' }) :
    wpAny (model prog w) A (call (.type "zip") [.ref t1, .ref t2]) Q E s := by
  refine callType_new F.called_zip (by decide) (F.typeCall_zip_2 _ _) (F.newCall_zip_2 _ _) (fun obj => F.args_object_init_3 obj _ _) F.entry_zip_new (zipT_new t1 t2 xs ys) ⟨hl1, hl2, ?_⟩
  have a1 : (zA s.heap t1).objs.size = s.heap.objs.size + 1 := Heap.size_push ..
  have a2 : (zB s.heap t1 t2).objs.size = s.heap.objs.size + 2 := by unfold zB; rw [Heap.size_push, a1]
  have a3 : ((zB s.heap t1 t2).push { cls := .type "tuple", data := .seq #[.ref s.heap.objs.size, .ref (zA s.heap t1).objs.size] }).objs.size = s.heap.objs.size + 3 := by rw [Heap.size_push, a2]
  have a4 : (zC s.heap t1 t2).objs.size = s.heap.objs.size + 4 := by unfold zC; rw [Heap.size_push, a3]
  show _ ∧ _
  rw [a3, a2, a4]
  have k4 : ∀ c o, (zC s.heap t1 t2).get? c = some o → ((zC s.heap t1 t2).push { cls := .type "zip", data := .fields #[.none, .bool false, .bool false, .ref (s.heap.objs.size + 2), .ref (s.heap.objs.size + 3)] }).get? c = some o := fun c o e => Heap.get?_push_of_some _ e
  have k2 : ∀ c o, (zB s.heap t1 t2).get? c = some o → (zC s.heap t1 t2).get? c = some o := fun c o e => Heap.get?_push_of_some _ (Heap.get?_push_of_some _ e)
  have k1 : ∀ c o, (zA s.heap t1).get? c = some o → (zB s.heap t1 t2).get? c = some o := fun c o e => Heap.get?_push_of_some _ e
  have g1 : (zA s.heap t1).get? s.heap.objs.size = some { cls := .type "tuple_iterator", data := .fields #[.ref t1, .int 0 0] } := Heap.get?_push_size _ rfl
  have g2 : (zB s.heap t1 t2).get? (zA s.heap t1).objs.size = some { cls := .type "tuple_iterator", data := .fields #[.ref t2, .int 0 0] } := Heap.get?_push_size _ rfl
  have g3 : (zC s.heap t1 t2).get? (zB s.heap t1 t2).objs.size = some { cls := .type "tuple", data := .seq #[.ref s.heap.objs.size, .ref (zA s.heap t1).objs.size] } := Heap.get?_push_of_some _ (Heap.get?_push_size _ rfl)
  have g4 : (zC s.heap t1 t2).get? ((zB s.heap t1 t2).push { cls := .type "tuple", data := .seq #[.ref s.heap.objs.size, .ref (zA s.heap t1).objs.size] }).objs.size = some { cls := .type "tuple", data := .seq #[.none, .none] } := Heap.get?_push_size _ rfl
  have g5 : ((zC s.heap t1 t2).push { cls := .type "zip", data := .fields #[.none, .bool false, .bool false, .ref (s.heap.objs.size + 2), .ref (s.heap.objs.size + 3)] }).get? (zC s.heap t1 t2).objs.size = some { cls := .type "zip", data := .fields #[.none, .bool false, .bool false, .ref (s.heap.objs.size + 2), .ref (s.heap.objs.size + 3)] } := Heap.get?_push_size _ rfl
  rw [a4] at g5
  rw [a3] at g4
  rw [a2, a1] at g3
  rw [a1] at g2
  exact ⟨⟨_, g5, rfl⟩, h _ g5 (k4 _ _ g3) (k4 _ _ g4) ⟨_, k4 _ _ (k2 _ _ (k1 _ _ g1)), rfl, rfl⟩ ⟨_, k4 _ _ (k2 _ _ g2), rfl, rfl⟩ fun c o e => k4 _ _ (k2 _ _ (k1 _ _ (Heap.get?_push_of_some _ e)))⟩
end Tn
namespace L2
open PySem PySem.Spec PyProof.Rows
def Itz (a b : Addr) : It :=
  ⟨fun i H => ∃ xs ys x y, H a = some (.tup xs) ∧ H b = some (.tup ys) ∧ xs[i]? = some x ∧ ys[i]? = some y,
   fun i H v H' => ∃ p x y, H p = none ∧ v = .ref p ∧ (∀ xs, H a = some (.tup xs) → xs[i]? = some x) ∧ (∀ ys, H b = some (.tup ys) → ys[i]? = some y) ∧ H' = upd H p (.tup [x, y]),
   fun i H => ∃ xs ys, H a = some (.tup xs) ∧ H b = some (.tup ys) ∧ xs.length = i⟩
section
variable {X : Cx}
theorem Inv.turned2 {h' : Heap} {pins : List (Addr × Obj)} {σ : St} {H : Hp} {s : Shared} {t' : Nat} {i j : Addr} (I : Inv X pins σ H s) (k : ∀ b o, b ≠ i → b ≠ j → s.heap.get? b = some o → h'.get? b = some o) (fi : FpOk X pins H i) (fj : FpOk X pins H j) : Inv X pins σ H { s with heap := h', toks := t' } := by
  have nit : ∀ b u, H b = some u → b ≠ i ∧ b ≠ j := fun b u e => ⟨(fun z => by rw [z, fi.1] at e; cases e), (fun z => by rw [z, fj.1] at e; cases e)⟩
  have inch : ∀ c, c ∉ [i, j] → c ≠ i ∧ c ≠ j := fun c hc => ⟨fun z => hc (by simp [z]), fun z => hc (by simp [z])⟩
  refine I.step (g' := s.gens) (d' := s.drawn) (ch := [i, j]) (fun b hb => ?_) (fun b o _ _ hc e _ => k b o (inch b hc).1 (inch b hc).2 e) (fun b o _ _ hc e _ => ⟨o.slots, k b o (inch b hc).1 (inch b hc).2 e⟩) (fun _ _ _ _ n => n)
    (fun b o hc e => ⟨o, k b o (inch b hc).1 (inch b hc).2 e⟩) (fun _ _ e => e) (fun _ _ _ e => e) (fun b ps e => ⟨#[], by rw [e]; simp⟩) (fun m hm => ?_) (fun b u e => ?_) I.bare
  · rcases List.mem_cons.mp hb with z | z
    · rw [z]; exact ⟨fi.2.2.2.1, fi.2.1, fi.2.2.2.2.1, fi.2.2.2.2.2⟩
    · rw [List.mem_singleton.mp z]; exact ⟨fj.2.2.2.1, fj.2.1, fj.2.2.2.2.1, fj.2.2.2.2.2⟩
  · obtain ⟨o, es, ep, ho, r⟩ := hm
    exact ⟨o, es, ep, k _ o (Ne.symm fi.2.1) (Ne.symm fj.2.1) ho, r⟩
  · refine (I.hok b u e).stay (fun c v hc q => ?_) (fun _ q => q) fun _ _ q => q
    have hcc : c ≠ i ∧ c ≠ j := by
      rcases hc with z | z
      · rw [z]; exact nit b u e
      · exact nit c _ z
    exact k c v hcc.1 hcc.2 q
theorem turn_zipT {P : Program} {w : World} {K : PySem.W.Frag} {elts : List Expr} {k : Nat} {tp : Pos} (a b : Addr) (n : Nat) :
    Turn P w K (.Tuple elts k tp) (Itz a b) [n + 4, n + 2, n + 3, n + 0, n + 1] (n + 4) (fun i h => IsZip h (n + 4) (n + 2) (n + 3) .none ∧ IsPair h (n + 2) (.ref (n + 0)) (.ref (n + 1)) ∧ (∃ u v, IsPair h (n + 3) u v) ∧ h.IsTupleIter (n + 0) a i ∧ h.IsTupleIter (n + 1) b i) where
  mem := List.mem_cons_self
  obj := fun i h st c hc => by
    obtain ⟨hz, hTI, ⟨u, v, hTO⟩, ⟨o1, q1, _, d1⟩, ⟨o2, q2, _, d2⟩⟩ := st
    rcases List.mem_cons.mp hc with z | hc
    · subst z
      exact ⟨_, hz, fun v z => by
        have z' : Data.fields _ = Data.cell v := z
        cases z'⟩
    rcases List.mem_cons.mp hc with z | hc
    · subst z
      exact ⟨_, hTI, fun v z => by
        have z' : Data.seq _ _ = Data.cell v := z
        cases z'⟩
    rcases List.mem_cons.mp hc with z | hc
    · subst z
      exact ⟨_, hTO, fun v z => by
        have z' : Data.seq _ _ = Data.cell v := z
        cases z'⟩
    rcases List.mem_cons.mp hc with z | hc
    · subst z
      exact ⟨o1, q1, fun v z => by rw [d1] at z; cases z⟩
    · rw [List.mem_singleton.mp hc]
      exact ⟨o2, q2, fun v z => by rw [d2] at z; cases z⟩
  keep := fun i h h' st kp => by
    obtain ⟨hz, hTI, ⟨u, v, hTO⟩, h1, h2⟩ := st
    exact ⟨kp _ (by simp) _ hz, kp _ (by simp) _ hTI, ⟨u, v, kp _ (by simp) _ hTO⟩, Tn.tupIter_at h1 fun o q => kp _ (by simp) o q, Tn.tupIter_at h2 fun o q => kp _ (by simp) o q⟩
  item := by
    intro X hP hw hK hc i pins s σ H E I hf st hg
    subst hP hw hK
    obtain ⟨xs, ys, x, y, ha, hb, hx, hy⟩ := hg
    obtain ⟨its, rv, p1, _⟩ := I.tuple (SqT.of (K := X.K) ha)
    obtain ⟨jts, rw', p2, _⟩ := I.tuple (SqT.of (K := X.K) hb)
    obtain ⟨u, hu, ru⟩ := rv.get hx
    obtain ⟨v, hv, rv'⟩ := rw'.get hy
    obtain ⟨hz, hTI, ⟨u0, v0, hTO⟩, h1, h2⟩ := st
    have f4 := hf (n + 4) (by simp)
    have f3 := hf (n + 3) (by simp)
    have f2 := hf (n + 2) (by simp)
    have f0 := hf (n + 0) (by simp)
    have f1 := hf (n + 1) (by simp)
    have ne : ∀ c o, H c = some o → c ≠ n + 4 ∧ c ≠ n + 3 ∧ c ≠ n + 0 ∧ c ≠ n + 1 := fun c o z =>
      ⟨(fun q => by rw [q, f4.1] at z; cases z), (fun q => by rw [q, f3.1] at z; cases z), (fun q => by rw [q, f0.1] at z; cases z), (fun q => by rw [q, f1.1] at z; cases z)⟩
    have hnew : H s.heap.objs.size = none := I.hok.fresh (Nat.le_refl _)
    have ea := ne a _ ha
    have eb := ne b _ hb
    refine Tn.nextZ_item ea.1 ⟨eb.1, eb.2.1, eb.2.2.1⟩ hz hTI hTO h1 h2 (show s.heap.IsTuple a its.toArray from p1) (show s.heap.IsTuple b jts.toArray from p2) (x := u) (y := v) (by simpa using hu) (by simpa using hv) fun h' z' o' i1 i2 t' kp => ?_
    refine ⟨_, rfl, wpAny_letOwnedTupleGo_zip (s := { s with heap := h' }) z' fun g zg sg => ?_⟩
    have zlt : n + 4 < s.heap.objs.size := Heap.lt_size hz
    have up : ∀ c o, c ≠ n + 4 → c ≠ n + 3 → c ≠ n + 0 → c ≠ n + 1 → s.heap.get? c = some o → g.get? c = some o := fun c o c4 c3 c0 c1 e => sg.extBut _ _ c4 (kp c o c4 c3 c0 c1 e)
    have tg : g.get? s.heap.objs.size = some { cls := .type "tuple", data := .seq #[u, v] } := sg.extBut _ _ (Nat.ne_of_gt zlt) t'
    have inch : ∀ c, c ∉ [n + 4, n + 3, n + 0, n + 1] → c ≠ n + 4 ∧ c ≠ n + 3 ∧ c ≠ n + 0 ∧ c ≠ n + 1 := fun c hc => ⟨fun z => hc (by simp [z]), fun z => hc (by simp [z]), fun z => hc (by simp [z]), fun z => hc (by simp [z])⟩
    have I1 : Inv X pins σ (upd H s.heap.objs.size (.tup [x, y])) { s with heap := g } := by
      refine I.step (g' := s.gens) (d' := s.drawn) (ch := [n + 4, n + 3, n + 0, n + 1]) (fun c hc => ?_) (fun c o _ _ hc q _ => let ⟨c4, c3, c0, c1⟩ := inch c hc; up c o c4 c3 c0 c1 q)
        (fun c o _ _ hc q _ => let ⟨c4, c3, c0, c1⟩ := inch c hc; ⟨o.slots, up c o c4 c3 c0 c1 q⟩) (fun c o _ q n' => by rw [upd_ne (Nat.ne_of_lt (Heap.lt_size q))]; exact n')
        (fun c o hc q => let ⟨c4, c3, c0, c1⟩ := inch c hc; ⟨o, up c o c4 c3 c0 c1 q⟩) (fun c us q => by rw [upd_ne (ne_of_none q hnew)]; exact q) (fun c o us q => by rw [upd_ne (ne_of_none q hnew)]; exact q)
        (fun c ps q => ⟨#[], by rw [upd_ne (ne_of_none q hnew), q]; simp⟩) (fun m hm => ?_) (fun c oc q => ?_) I.bare
      · rcases List.mem_cons.mp hc with z | hc
        · subst z; exact ⟨f4.2.2.2.1, f4.2.1, f4.2.2.2.2.1, f4.2.2.2.2.2⟩
        rcases List.mem_cons.mp hc with z | hc
        · subst z; exact ⟨f3.2.2.2.1, f3.2.1, f3.2.2.2.2.1, f3.2.2.2.2.2⟩
        rcases List.mem_cons.mp hc with z | hc
        · subst z; exact ⟨f0.2.2.2.1, f0.2.1, f0.2.2.2.2.1, f0.2.2.2.2.2⟩
        · rw [List.mem_singleton.mp hc]; exact ⟨f1.2.2.2.1, f1.2.1, f1.2.2.2.2.1, f1.2.2.2.2.2⟩
      · obtain ⟨o, es, ep, ho, r⟩ := hm
        exact ⟨o, es, ep, up _ o (Ne.symm f4.2.1) (Ne.symm f3.2.1) (Ne.symm f0.2.1) (Ne.symm f1.2.1) ho, r⟩
      · by_cases hcs : c = s.heap.objs.size
        · subst hcs
          rw [upd_same] at q; cases q
          exact ⟨(by show 2 ≤ sizeLine; decide), [u, v], .cons ru (.cons rv' .nil), ⟨_, tg, rfl, ⟨_, rfl⟩, rfl⟩⟩
        · rw [upd_ne hcs] at q
          refine (I.hok c oc q).stay (fun c' v' hc' q' => ?_) (fun c' z => by rw [upd_ne (ne_of_none z hnew)]; exact z) fun c' us z => by rw [upd_ne (ne_of_none z hnew)]; exact z
          obtain ⟨c4, c3, c0, c1⟩ : c' ≠ n + 4 ∧ c' ≠ n + 3 ∧ c' ≠ n + 0 ∧ c' ≠ n + 1 := by
            rcases hc' with z | z
            · subst z; exact ne _ _ q
            · exact ne _ _ z
          exact up c' v' c4 c3 c0 c1 q'
    have iter : ∀ {it t : Addr} {j : Nat}, it ≠ n + 4 → h'.IsTupleIter it t j → g.IsTupleIter it t j := fun hne p => Tn.tupIter_at p fun o q => sg.extBut _ _ hne q
    refine ⟨.ref s.heap.objs.size, _, I1, rfl, ⟨s.heap.objs.size, x, y, hnew, rfl, fun us e => by rw [ha] at e; cases e; exact hx, fun us e => by rw [hb] at e; cases e; exact hy, rfl⟩,
      ⟨zg, up _ _ (Tn.nz 2 4) (Tn.nz 2 3) (Tn.nz 2 0) (Tn.nz 2 1) hTI, ⟨u, v, sg.extBut _ _ (Tn.nz 3 4) o'⟩, iter (Tn.nz 0 4) i1, iter (Tn.nz 1 4) i2⟩, fun c hc => ?_⟩
    have hcn : c ≠ s.heap.objs.size := by
      rcases List.mem_cons.mp hc with z | hc
      · subst z; exact Nat.ne_of_lt zlt
      rcases List.mem_cons.mp hc with z | hc
      · subst z; exact Nat.ne_of_lt (Heap.lt_size hTI)
      rcases List.mem_cons.mp hc with z | hc
      · subst z; exact Nat.ne_of_lt (Heap.lt_size hTO)
      rcases List.mem_cons.mp hc with z | hc
      · subst z; exact Nat.ne_of_lt (let ⟨_, e, _⟩ := h1; Heap.lt_size e)
      · rw [List.mem_singleton.mp hc]; exact Nat.ne_of_lt (let ⟨_, e, _⟩ := h2; Heap.lt_size e)
    rw [upd_ne hcn]
    exact (hf c hc).1
  done := by
    intro X hP hw hK hc i pins s σ H E I hf st hg
    subst hP hw hK
    obtain ⟨xs, ys, ha, hb, hl⟩ := hg
    obtain ⟨its, rv, p1, _⟩ := I.tuple (SqT.of (K := X.K) ha)
    obtain ⟨hz, hTI, _, h1, h2⟩ := st
    have hlen := rv.length
    have f4 := hf (n + 4) (by simp)
    have f0 := hf (n + 0) (by simp)
    have ea4 : a ≠ n + 4 := fun q => by rw [q, f4.1] at ha; cases ha
    refine Tn.nextZ_end (I.ok.hd hc) ea4 hz hTI h1 (show s.heap.IsTuple a its.toArray from p1) (by simp; omega) fun h' kp => ⟨rfl, ?_⟩
    refine I.turned2 (t' := s.toks) (fun c o c4 c0 q => kp c o c4 c0 q) f4 f0
  self := fun _ i s Q E st h => wpAny_pyIter_zip st.1 h
def iZip (ta : TA) : TI := fun σ H R => ta σ H fun vs H1 => ∃ a b xs ys, vs = [.ref a, .ref b] ∧ H1 a = some (.tup xs) ∧ H1 b = some (.tup ys) ∧ R (Itz a b) H1
theorem pi_zipTT {e e' : Expr} {ta : TA} {p pos tp : Pos} {elts : List Expr} {k : Nat} (hg : Gl X "zip") (hm : X.mg "zip" = none) (ha : PA X [e, e'] ta) (hs : starEach [e, e'] X.env = (false, eval e X.env) :: starEach [e'] X.env := by rfl) (hpl : (backTo pos (starEach [e'] X.env)).any (·.1) = false := by rfl) :
    PI X (.Tuple elts k tp) (.Call (.Name "zip" p) [e, e'] [] pos) (iZip ta) := by
  intro pins s σ H R I h
  refine Call_ (ld_blt I hg hm (by decide +kernel : bootBuiltins "zip" = some (.type "zip")) (PyProof.Rows.callWith_type1 (thn (ha pos pins s σ H _ I h) fun us s1 ⟨vs, H1, I1, r1, q1⟩ => ?_) hs hpl))
  obtain ⟨a, b, xs, ys, rfl, h1, h2, q⟩ := q1
  obtain ⟨u, u', rfl, rx, ry⟩ := r1.two
  cases rx
  cases ry
  obtain ⟨its, rv, p1, _⟩ := I1.tuple (SqT.of (K := X.K) h1)
  obtain ⟨jts, rw', p2, _⟩ := I1.tuple (SqT.of (K := X.K) h2)
  refine Tn.call_zipT (show s1.heap.IsTuple a its.toArray from p1) (show s1.heap.IsTuple b jts.toArray from p2) fun g hz hTI hTO i1 i2 kp => ?_
  refine wpAny_pyIter_zip (s := { s1 with heap := g }) hz ?_
  have I2 : Inv X pins σ H1 { s1 with heap := g } := I1.kept (t' := s1.toks) kp
  have fr : ∀ b, s1.heap.objs.size ≤ b → FpOk X pins H1 b := fun b hb => I1.fpOk hb (I1.hok.fresh hb)
  refine ⟨_, [s1.heap.objs.size + 4, s1.heap.objs.size + 2, s1.heap.objs.size + 3, s1.heap.objs.size + 0, s1.heap.objs.size + 1], _, Itz a b, H1, rfl, I2, turn_zipT a b s1.heap.objs.size, ⟨hz, hTI, ⟨_, _, hTO⟩, i1, i2⟩, fun c hc => fr c ?_, q⟩
  rcases List.mem_cons.mp hc with z | hc
  · rw [z]; exact Nat.le_add_right _ _
  rcases List.mem_cons.mp hc with z | hc
  · rw [z]; exact Nat.le_add_right _ _
  rcases List.mem_cons.mp hc with z | hc
  · rw [z]; exact Nat.le_add_right _ _
  rcases List.mem_cons.mp hc with z | hc
  · rw [z]; exact Nat.le_add_right _ _
  · rw [List.mem_singleton.mp hc]; exact Nat.le_add_right _ _
end
end L2
namespace Tn
open PySem PySem.Spec PyProof PyProof.Rows
section
variable {prog : Program} {w : World} {A : Around} {E : Value → Shared → Prop} {s : Shared}
theorem nextL_item {it tp : Addr} {k : Nat} {xs : Array Value} {v : Value} {Q : Value → Shared → Prop} (p1 : s.heap.IsListIter it tp k) (p2 : s.heap.IsList tp xs) (hv : xs[k]? = some v)
    (hQ : ∀ g, g.IsListIter it tp (k + 1) → Heap.SameBut it s.heap g → Q v { s with heap := g }) : wpAny (model prog w) A (Builtin.SmallTypes.nextOf (.ref it)) Q E s := by
  obtain ⟨o1, g1, c1, d1⟩ := id p1
  obtain ⟨o2, g2, _, n2, d2⟩ := p2
  unfold Builtin.SmallTypes.nextOf
  refine wpAny_bind (wpAny_callSpecial?_slot (name := Str.ofString "__next__") p1.typeIs slot_listiter_next (wpAny_call_entry slot_listiter_next p1.typeIs entry_listiter_next ?_ (args_listiter_next _)))
  show wpAny _ _ (field (.ref it) 0 >>= _) _ _ _
  refine wpAny_bind (wpAny_field g1 d1 (x := .ref tp) rfl ?_)
  show wpAny _ _ (if (Value.ref tp == Value.none) = true then _ else _) _ _ _
  rw [if_neg (show ¬ ((Value.ref tp == Value.none) = true) from Bool.false_ne_true)]
  show wpAny _ _ (field (.ref it) 1 >>= _) _ _ _
  refine wpAny_bind (wpAny_field g1 d1 (x := .int k 0) rfl ?_)
  show wpAny _ _ (seqItems? (.ref tp) >>= _) _ _ _
  refine wpAny_bind (wpAny_seqItems g2 d2 ?_)
  simp only [Int.toNat_natCast, hv]
  refine wpAny_bind (wpAny_setField g1 d1 (by simp) (wpAny_pure ⟨v, rfl, wpAny_pure (hQ _ ?_ (Heap.SameBut.update ..))⟩))
  exact ⟨_, Heap.get?_update_self _ g1 (Obj.isFreed_of_fields (Obj.data_mapFields d1 _)), (Obj.cls_mapFields ..).trans c1, by
      rw [Obj.data_mapFields d1]; simp [rawInt]⟩
end
section
variable {prog : Program} {w : World} {A : Around} {E : Value → Shared → Prop} {s : Shared} {n : Nat} {t1 t2 : Addr} {k : Nat} {xs ys : Array Value} {x y a b : Value}
theorem zipL_item {Q : Value → Shared → Prop} (d1 : t1 ≠ n + 4) (d2 : t2 ≠ n + 4 ∧ t2 ≠ n + 3 ∧ t2 ≠ n + 0) (hz : IsZip s.heap (n + 4) (n + 2) (n + 3) .none) (hTI : IsPair s.heap (n + 2) (.ref (n + 0)) (.ref (n + 1))) (hTO : IsPair s.heap (n + 3) a b)
    (h1 : s.heap.IsTupleIter (n + 0) t1 k) (h2 : s.heap.IsListIter (n + 1) t2 k) (p1 : s.heap.IsTuple t1 xs) (p2 : s.heap.IsList t2 ys) (hx : xs[k]? = some x) (hy : ys[k]? = some y)
    (hQ : ∀ h', IsZip h' (n + 4) (n + 2) (n + 3) (rawInt s.heap.objs.size) → IsPair h' (n + 3) x y → h'.IsTupleIter (n + 0) t1 (k + 1) → h'.IsListIter (n + 1) t2 (k + 1) → IsPair h' s.heap.objs.size x y →
      (∀ c o, c ≠ n + 4 → c ≠ n + 3 → c ≠ n + 0 → c ≠ n + 1 → s.heap.get? c = some o → h'.get? c = some o) → Q (.ref s.heap.objs.size) { s with heap := h' }) :
    wpAny (model prog w) A (Builtin.«zip.__next__» ⟨[.ref (n + 4)], []⟩) (fun fin s' => ∃ v, fin = .done (.ret v) ∧ Q v s') E s := by
  show wpAny _ _ (field (.ref (n + 4)) 2 >>= _) _ _ _
  refine wpAny_bind (wpAny_field hz rfl (x := .bool false) rfl ?_)
  show wpAny _ _ (field (.ref (n + 4)) 3 >>= _) _ _ _
  refine wpAny_bind (wpAny_field hz rfl (x := .ref (n + 2)) rfl ?_)
  refine wpAny_bind (wpAny_seqItems hTI rfl ?_)
  show wpAny _ _ (Builtin.SmallTypes.ownedTupleIsFree (.ref (n + 4)) >>= _) _ _ _
  refine wpAny_bind ?_
  unfold Builtin.SmallTypes.ownedTupleIsFree
  refine wpAny_bind (wpAny_field hz rfl (x := .none) rfl (wpAny_pure ?_))
  simp only [if_true]
  refine wpAny_bind (wpAny_rule ?_)
  refine wpAny_bind (wpAny_field hz rfl (x := .ref (n + 3)) rfl ?_)
  refine wpAny_bind (wpAny_setField_rec hz (by simp) fun g1 z1 s1 => ?_)
  replace z1 : IsZip g1 (n + 4) (n + 2) (n + 3) .ellipsis := z1
  refine wpAny_bind ?_
  simp only [List.zipIdx_cons, List.zipIdx_nil, List.forIn_cons, List.forIn_nil]
  refine wpAny_bind (wpAny_bind (wpAny_onRaise ?_))
  show wpAny _ _ (Builtin.SmallTypes.nextOf (.ref (n + 0)) >>= _) _ _ _
  refine wpAny_bind (nextT_item (tupIter_at h1 fun o e => s1.extBut _ _ (nz 0 4) e) (tup_at p1 fun o e => s1.extBut _ _ d1 e) hx fun g2 i2 s2 => wpAny_pure ?_)
  have o2 : IsPair g2 (n + 3) a b := s2.extBut _ _ (nz 3 0) (s1.extBut _ _ (nz 3 4) hTO)
  refine wpAny_bind (wpAny_seqItems o2 rfl ?_)
  refine wpAny_bind (wpAny_updateSeq_pair o2 fun g3 o3 s3 => ?_)
  replace o3 : IsPair g3 (n + 3) x b := o3
  refine wpAny_bind (wpAny_letGo (wpAny_pure ?_))
  refine wpAny_bind (wpAny_bind (wpAny_onRaise ?_))
  show wpAny _ _ (Builtin.SmallTypes.nextOf (.ref (n + 1)) >>= _) _ _ _
  have up3 : ∀ c o, c ≠ n + 4 → c ≠ n + 3 → c ≠ n + 0 → s.heap.get? c = some o → g3.get? c = some o := fun c o c4 c3 c0 e => s3.extBut _ _ c3 (s2.extBut _ _ c0 (s1.extBut _ _ c4 e))
  refine wpAny_bind (nextL_item (tupIter_atL h2 fun o e => up3 _ o (nz 1 4) (nz 1 3) (nz 1 0) e) (tup_atL p2 fun o e => up3 _ o d2.1 d2.2.1 d2.2.2 e) hy fun g4 i4 s4 => wpAny_pure ?_)
  have o4 : IsPair g4 (n + 3) x b := s4.extBut _ _ (nz 3 1) o3
  refine wpAny_bind (wpAny_seqItems o4 rfl ?_)
  refine wpAny_bind (wpAny_updateSeq_pair o4 fun g5 o5 s5 => ?_)
  replace o5 : IsPair g5 (n + 3) x y := o5
  refine wpAny_bind (wpAny_letGo (wpAny_pure (wpAny_pure ?_)))
  refine wpAny_bind (wpAny_seqItems o5 rfl ?_)
  refine wpAny_bind (wpAny_newTuple ?_)
  have hsz : g5.objs.size = s.heap.objs.size := by rw [s5.1, s4.1, s3.1, s2.1, s1.1]
  have z5 : IsZip g5 (n + 4) (n + 2) (n + 3) .ellipsis := s5.extBut _ _ (nz 4 3) (s4.extBut _ _ (nz 4 1) (s3.extBut _ _ (nz 4 3) (s2.extBut _ _ (nz 4 0) z1)))
  have up5 : ∀ c o, c ≠ n + 4 → c ≠ n + 3 → c ≠ n + 0 → c ≠ n + 1 → s.heap.get? c = some o → g5.get? c = some o := fun c o c4 c3 c0 c1 e => s5.extBut _ _ c3 (s4.extBut _ _ c1 (up3 c o c4 c3 c0 e))
  have i5 : g5.IsTupleIter (n + 0) t1 (k + 1) := tupIter_at i2 fun o e => s5.extBut _ _ (nz 0 3) (s4.extBut _ _ (nz 0 1) (s3.extBut _ _ (nz 0 3) e))
  have j5 : g5.IsListIter (n + 1) t2 (k + 1) := tupIter_atL i4 fun o e => s5.extBut _ _ (nz 1 3) e
  have zlt : n + 4 < g5.objs.size := Heap.lt_size z5
  show wpAny _ _ (Builtin.SmallTypes.ownedTupleHandOut (.ref (n + 4)) (.ref g5.objs.size) >>= _) _ _ _
  refine wpAny_bind ?_
  unfold Builtin.SmallTypes.ownedTupleHandOut
  have z6 : IsZip (g5.push { cls := .type "tuple", data := .seq #[x, y] }) (n + 4) (n + 2) (n + 3) .ellipsis := Heap.get?_push_of_some _ z5
  refine wpAny_bind (wpAny_setField_rec z6 (by simp) fun g7 z7 s7 => ?_)
  replace z7 : IsZip g7 (n + 4) (n + 2) (n + 3) (rawInt g5.objs.size) := z7
  refine wpAny_setField_rec z7 (by simp) fun g8 z8 s8 => ?_
  replace z8 : IsZip g8 (n + 4) (n + 2) (n + 3) (rawInt g5.objs.size) := z8
  have up8 : ∀ c o, c ≠ n + 4 → g5.get? c = some o → g8.get? c = some o := fun c o c4 e => s8.extBut _ _ c4 (s7.extBut _ _ c4 (Heap.get?_push_of_some _ e))
  have t8 : IsPair g8 g5.objs.size x y := s8.extBut _ _ (Nat.ne_of_gt zlt) (s7.extBut _ _ (Nat.ne_of_gt zlt) (Heap.get?_push_size _ rfl))
  rw [hsz] at z8 t8
  refine wpAny_pure ⟨_, rfl, ?_⟩
  show Q (.ref g5.objs.size) _
  rw [hsz]
  exact hQ g8 z8 (up8 _ _ (nz 3 4) o5) (tupIter_at i5 fun o e => up8 _ o (nz 0 4) e) (tupIter_atL j5 fun o e => up8 _ o (nz 1 4) e) t8 fun c o c4 c3 c0 c1 e => up8 c o c4 (up5 c o c4 c3 c0 c1 e)
theorem nextZL_item {Q : Option Value → Shared → Prop} (d1 : t1 ≠ n + 4) (d2 : t2 ≠ n + 4 ∧ t2 ≠ n + 3 ∧ t2 ≠ n + 0) (hz : IsZip s.heap (n + 4) (n + 2) (n + 3) .none) (hTI : IsPair s.heap (n + 2) (.ref (n + 0)) (.ref (n + 1))) (hTO : IsPair s.heap (n + 3) a b)
    (h1 : s.heap.IsTupleIter (n + 0) t1 k) (h2 : s.heap.IsListIter (n + 1) t2 k) (p1 : s.heap.IsTuple t1 xs) (p2 : s.heap.IsList t2 ys) (hx : xs[k]? = some x) (hy : ys[k]? = some y)
    (hQ : ∀ h', IsZip h' (n + 4) (n + 2) (n + 3) (rawInt s.heap.objs.size) → IsPair h' (n + 3) x y → h'.IsTupleIter (n + 0) t1 (k + 1) → h'.IsListIter (n + 1) t2 (k + 1) → IsPair h' s.heap.objs.size x y →
      (∀ c o, c ≠ n + 4 → c ≠ n + 3 → c ≠ n + 0 → c ≠ n + 1 → s.heap.get? c = some o → h'.get? c = some o) → Q (some (.ref s.heap.objs.size)) { s with heap := h' }) :
    wpAny (model prog w) A (pyNext (.ref (n + 4))) Q E s := by
  have hT : s.TypeIs (.ref (n + 4)) "zip" := ⟨_, hz, rfl⟩
  unfold pyNext
  exact wpAny_bind (wpAny_attempt (wpAny_callSpecial?_slot (name := Str.ofString "__next__") hT F.slot_zip_next
    (wpAny_call_entry F.slot_zip_next hT F.entry_zip_next (zipL_item d1 d2 hz hTI hTO h1 h2 p1 p2 hx hy fun h' a1 a2 a3 a4 a5 a6 => wpAny_pure (hQ h' a1 a2 a3 a4 a5 a6)) (F.args_zip_next_1 _))))
end
def zBL (h : Heap) (t1 t2 : Addr) : Heap := (zA h t1).push { cls := .type "list_iterator", data := .fields #[.ref t2, .int 0 0] }
def zCL (h : Heap) (t1 t2 : Addr) : Heap := ((zBL h t1 t2).push { cls := .type "tuple", data := .seq #[.ref h.objs.size, .ref (zA h t1).objs.size] }).push { cls := .type "tuple", data := .seq #[.none, .none] }
theorem zipL_new (t1 t2 : Addr) (xs ys : Array Value) :
    Meets (Builtin.«zip.__new__» ⟨[.type "zip", .ref t1, .ref t2], []⟩) (fun _ R s => s.heap.IsTuple t1 xs ∧ s.heap.IsList t2 ys ∧
      R (.ok (.ret (.ref (zCL s.heap t1 t2).objs.size))) { s with heap := (zCL s.heap t1 t2).push { cls := .type "zip", data := .fields #[.none, .bool false, .bool false, .ref (zBL s.heap t1 t2).objs.size, .ref ((zBL s.heap t1 t2).push { cls := .type "tuple", data := .seq #[.ref s.heap.objs.size, .ref (zA s.heap t1).objs.size] }).objs.size] } }) :=
  .of_wp fun prog w A R s h => by
    obtain ⟨hp, g, d, tk, os⟩ := s; obtain ⟨hl1, hl2, h⟩ := h
    have hsub := sub_zip
    have hL1 : Heap.IsTuple (Shared.heap ⟨hp, g, d, tk, os⟩) t1 xs := hl1
    have hL2 : Heap.IsList (Shared.heap ⟨hp.push { cls := .type "tuple_iterator", data := .fields #[.ref t1, .int 0 0] }, g, d, tk, os⟩) t2 ys := tup_atL hl2 fun o e => Heap.get?_push_of_some _ e
    wp_walk using wpAny_pyIter_tuple hL1, wpAny_pyIter_list hL2
    exact ⟨_, rfl, h⟩
theorem call_zipL {prog : Program} {w : World} {A : Around} {E : Value → Shared → Prop} {s : Shared} {t1 t2 : Addr} {xs ys : Array Value} {Q : Value → Shared → Prop} (hl1 : s.heap.IsTuple t1 xs) (hl2 : s.heap.IsList t2 ys)
    (h : ∀ h', IsZip h' (s.heap.objs.size + 4) (s.heap.objs.size + 2) (s.heap.objs.size + 3) .none → IsPair h' (s.heap.objs.size + 2) (.ref (s.heap.objs.size + 0)) (.ref (s.heap.objs.size + 1)) →
      IsPair h' (s.heap.objs.size + 3) .none .none → h'.IsTupleIter (s.heap.objs.size + 0) t1 0 → h'.IsListIter (s.heap.objs.size + 1) t2 0 →
      (∀ c o, s.heap.get? c = some o → h'.get? c = some o) → Q (.ref (s.heap.objs.size + 4)) { s with heap := h' }) :
    wpAny (model prog w) A (call (.type "zip") [.ref t1, .ref t2]) Q E s := by
  refine callType_new F.called_zip (by decide) (F.typeCall_zip_2 _ _) (F.newCall_zip_2 _ _) (fun obj => F.args_object_init_3 obj _ _) F.entry_zip_new (zipL_new t1 t2 xs ys) ⟨hl1, hl2, ?_⟩
  have a1 : (zA s.heap t1).objs.size = s.heap.objs.size + 1 := Heap.size_push ..
  have a2 : (zBL s.heap t1 t2).objs.size = s.heap.objs.size + 2 := by unfold zBL; rw [Heap.size_push, a1]
  have a3 : ((zBL s.heap t1 t2).push { cls := .type "tuple", data := .seq #[.ref s.heap.objs.size, .ref (zA s.heap t1).objs.size] }).objs.size = s.heap.objs.size + 3 := by rw [Heap.size_push, a2]
  have a4 : (zCL s.heap t1 t2).objs.size = s.heap.objs.size + 4 := by unfold zCL; rw [Heap.size_push, a3]
  show _ ∧ _
  rw [a3, a2, a4]
  have k4 : ∀ c o, (zCL s.heap t1 t2).get? c = some o → ((zCL s.heap t1 t2).push { cls := .type "zip", data := .fields #[.none, .bool false, .bool false, .ref (s.heap.objs.size + 2), .ref (s.heap.objs.size + 3)] }).get? c = some o := fun c o e => Heap.get?_push_of_some _ e
  have k2 : ∀ c o, (zBL s.heap t1 t2).get? c = some o → (zCL s.heap t1 t2).get? c = some o := fun c o e => Heap.get?_push_of_some _ (Heap.get?_push_of_some _ e)
  have k1 : ∀ c o, (zA s.heap t1).get? c = some o → (zBL s.heap t1 t2).get? c = some o := fun c o e => Heap.get?_push_of_some _ e
  have g1 : (zA s.heap t1).get? s.heap.objs.size = some { cls := .type "tuple_iterator", data := .fields #[.ref t1, .int 0 0] } := Heap.get?_push_size _ rfl
  have g2 : (zBL s.heap t1 t2).get? (zA s.heap t1).objs.size = some { cls := .type "list_iterator", data := .fields #[.ref t2, .int 0 0] } := Heap.get?_push_size _ rfl
  have g3 : (zCL s.heap t1 t2).get? (zBL s.heap t1 t2).objs.size = some { cls := .type "tuple", data := .seq #[.ref s.heap.objs.size, .ref (zA s.heap t1).objs.size] } := Heap.get?_push_of_some _ (Heap.get?_push_size _ rfl)
  have g4 : (zCL s.heap t1 t2).get? ((zBL s.heap t1 t2).push { cls := .type "tuple", data := .seq #[.ref s.heap.objs.size, .ref (zA s.heap t1).objs.size] }).objs.size = some { cls := .type "tuple", data := .seq #[.none, .none] } := Heap.get?_push_size _ rfl
  have g5 : ((zCL s.heap t1 t2).push { cls := .type "zip", data := .fields #[.none, .bool false, .bool false, .ref (s.heap.objs.size + 2), .ref (s.heap.objs.size + 3)] }).get? (zCL s.heap t1 t2).objs.size = some { cls := .type "zip", data := .fields #[.none, .bool false, .bool false, .ref (s.heap.objs.size + 2), .ref (s.heap.objs.size + 3)] } := Heap.get?_push_size _ rfl
  rw [a4] at g5
  rw [a3] at g4
  rw [a2, a1] at g3
  rw [a1] at g2
  exact ⟨⟨_, g5, rfl⟩, h _ g5 (k4 _ _ g3) (k4 _ _ g4) ⟨_, k4 _ _ (k2 _ _ (k1 _ _ g1)), rfl, rfl⟩ ⟨_, k4 _ _ (k2 _ _ g2), rfl, rfl⟩ fun c o e => k4 _ _ (k2 _ _ (k1 _ _ (Heap.get?_push_of_some _ e)))⟩
end Tn
namespace L2
open PySem PySem.Spec PyProof.Rows
def Itzl (a b : Addr) : It :=
  ⟨fun i H => ∃ xs ys x y, H a = some (.tup xs) ∧ H b = some (.lst ys) ∧ xs[i]? = some x ∧ ys[i]? = some y,
   fun i H v H' => ∃ p x y, H p = none ∧ v = .ref p ∧ (∀ xs, H a = some (.tup xs) → xs[i]? = some x) ∧ (∀ ys, H b = some (.lst ys) → ys[i]? = some y) ∧ H' = upd H p (.tup [x, y]),
   fun i H => ∃ xs ys, H a = some (.tup xs) ∧ H b = some (.lst ys) ∧ xs.length = i⟩
section
variable {X : Cx}
theorem turn_zipL {P : Program} {w : World} {K : PySem.W.Frag} {elts : List Expr} {k : Nat} {tp : Pos} (a b : Addr) (n : Nat) :
    Turn P w K (.Tuple elts k tp) (Itzl a b) [n + 4, n + 2, n + 3, n + 0, n + 1] (n + 4) (fun i h => IsZip h (n + 4) (n + 2) (n + 3) .none ∧ IsPair h (n + 2) (.ref (n + 0)) (.ref (n + 1)) ∧ (∃ u v, IsPair h (n + 3) u v) ∧ h.IsTupleIter (n + 0) a i ∧ h.IsListIter (n + 1) b i) where
  mem := List.mem_cons_self
  obj := fun i h st c hc => by
    obtain ⟨hz, hTI, ⟨u, v, hTO⟩, ⟨o1, q1, _, d1⟩, ⟨o2, q2, _, d2⟩⟩ := st
    rcases List.mem_cons.mp hc with z | hc
    · subst z
      exact ⟨_, hz, fun v z => by
        have z' : Data.fields _ = Data.cell v := z
        cases z'⟩
    rcases List.mem_cons.mp hc with z | hc
    · subst z
      exact ⟨_, hTI, fun v z => by
        have z' : Data.seq _ _ = Data.cell v := z
        cases z'⟩
    rcases List.mem_cons.mp hc with z | hc
    · subst z
      exact ⟨_, hTO, fun v z => by
        have z' : Data.seq _ _ = Data.cell v := z
        cases z'⟩
    rcases List.mem_cons.mp hc with z | hc
    · subst z
      exact ⟨o1, q1, fun v z => by rw [d1] at z; cases z⟩
    · rw [List.mem_singleton.mp hc]
      exact ⟨o2, q2, fun v z => by rw [d2] at z; cases z⟩
  keep := fun i h h' st kp => by
    obtain ⟨hz, hTI, ⟨u, v, hTO⟩, h1, h2⟩ := st
    exact ⟨kp _ (by simp) _ hz, kp _ (by simp) _ hTI, ⟨u, v, kp _ (by simp) _ hTO⟩, Tn.tupIter_at h1 fun o q => kp _ (by simp) o q, Tn.tupIter_atL h2 fun o q => kp _ (by simp) o q⟩
  item := by
    intro X hP hw hK hc i pins s σ H E I hf st hg
    subst hP hw hK
    obtain ⟨xs, ys, x, y, ha, hb, hx, hy⟩ := hg
    obtain ⟨its, rv, p1, _⟩ := I.tuple (SqT.of (K := X.K) ha)
    obtain ⟨jts, rw', p2, _⟩ := I.list (SqL.of (K := X.K) hb)
    obtain ⟨u, hu, ru⟩ := rv.get hx
    obtain ⟨v, hv, rv'⟩ := rw'.get hy
    obtain ⟨hz, hTI, ⟨u0, v0, hTO⟩, h1, h2⟩ := st
    have f4 := hf (n + 4) (by simp)
    have f3 := hf (n + 3) (by simp)
    have f2 := hf (n + 2) (by simp)
    have f0 := hf (n + 0) (by simp)
    have f1 := hf (n + 1) (by simp)
    have ne : ∀ c o, H c = some o → c ≠ n + 4 ∧ c ≠ n + 3 ∧ c ≠ n + 0 ∧ c ≠ n + 1 := fun c o z =>
      ⟨(fun q => by rw [q, f4.1] at z; cases z), (fun q => by rw [q, f3.1] at z; cases z), (fun q => by rw [q, f0.1] at z; cases z), (fun q => by rw [q, f1.1] at z; cases z)⟩
    have hnew : H s.heap.objs.size = none := I.hok.fresh (Nat.le_refl _)
    have ea := ne a _ ha
    have eb := ne b _ hb
    refine Tn.nextZL_item ea.1 ⟨eb.1, eb.2.1, eb.2.2.1⟩ hz hTI hTO h1 h2 (show s.heap.IsTuple a its.toArray from p1) p2.isList (x := u) (y := v) (by simpa using hu) (by simpa using hv) fun h' z' o' i1 i2 t' kp => ?_
    refine ⟨_, rfl, wpAny_letOwnedTupleGo_zip (s := { s with heap := h' }) z' fun g zg sg => ?_⟩
    have zlt : n + 4 < s.heap.objs.size := Heap.lt_size hz
    have up : ∀ c o, c ≠ n + 4 → c ≠ n + 3 → c ≠ n + 0 → c ≠ n + 1 → s.heap.get? c = some o → g.get? c = some o := fun c o c4 c3 c0 c1 e => sg.extBut _ _ c4 (kp c o c4 c3 c0 c1 e)
    have tg : g.get? s.heap.objs.size = some { cls := .type "tuple", data := .seq #[u, v] } := sg.extBut _ _ (Nat.ne_of_gt zlt) t'
    have inch : ∀ c, c ∉ [n + 4, n + 3, n + 0, n + 1] → c ≠ n + 4 ∧ c ≠ n + 3 ∧ c ≠ n + 0 ∧ c ≠ n + 1 := fun c hc => ⟨fun z => hc (by simp [z]), fun z => hc (by simp [z]), fun z => hc (by simp [z]), fun z => hc (by simp [z])⟩
    have I1 : Inv X pins σ (upd H s.heap.objs.size (.tup [x, y])) { s with heap := g } := by
      refine I.step (g' := s.gens) (d' := s.drawn) (ch := [n + 4, n + 3, n + 0, n + 1]) (fun c hc => ?_) (fun c o _ _ hc q _ => let ⟨c4, c3, c0, c1⟩ := inch c hc; up c o c4 c3 c0 c1 q)
        (fun c o _ _ hc q _ => let ⟨c4, c3, c0, c1⟩ := inch c hc; ⟨o.slots, up c o c4 c3 c0 c1 q⟩) (fun c o _ q n' => by rw [upd_ne (Nat.ne_of_lt (Heap.lt_size q))]; exact n')
        (fun c o hc q => let ⟨c4, c3, c0, c1⟩ := inch c hc; ⟨o, up c o c4 c3 c0 c1 q⟩) (fun c us q => by rw [upd_ne (ne_of_none q hnew)]; exact q) (fun c o us q => by rw [upd_ne (ne_of_none q hnew)]; exact q)
        (fun c ps q => ⟨#[], by rw [upd_ne (ne_of_none q hnew), q]; simp⟩) (fun m hm => ?_) (fun c oc q => ?_) I.bare
      · rcases List.mem_cons.mp hc with z | hc
        · subst z; exact ⟨f4.2.2.2.1, f4.2.1, f4.2.2.2.2.1, f4.2.2.2.2.2⟩
        rcases List.mem_cons.mp hc with z | hc
        · subst z; exact ⟨f3.2.2.2.1, f3.2.1, f3.2.2.2.2.1, f3.2.2.2.2.2⟩
        rcases List.mem_cons.mp hc with z | hc
        · subst z; exact ⟨f0.2.2.2.1, f0.2.1, f0.2.2.2.2.1, f0.2.2.2.2.2⟩
        · rw [List.mem_singleton.mp hc]; exact ⟨f1.2.2.2.1, f1.2.1, f1.2.2.2.2.1, f1.2.2.2.2.2⟩
      · obtain ⟨o, es, ep, ho, r⟩ := hm
        exact ⟨o, es, ep, up _ o (Ne.symm f4.2.1) (Ne.symm f3.2.1) (Ne.symm f0.2.1) (Ne.symm f1.2.1) ho, r⟩
      · by_cases hcs : c = s.heap.objs.size
        · subst hcs
          rw [upd_same] at q; cases q
          exact ⟨(by show 2 ≤ sizeLine; decide), [u, v], .cons ru (.cons rv' .nil), ⟨_, tg, rfl, ⟨_, rfl⟩, rfl⟩⟩
        · rw [upd_ne hcs] at q
          refine (I.hok c oc q).stay (fun c' v' hc' q' => ?_) (fun c' z => by rw [upd_ne (ne_of_none z hnew)]; exact z) fun c' us z => by rw [upd_ne (ne_of_none z hnew)]; exact z
          obtain ⟨c4, c3, c0, c1⟩ : c' ≠ n + 4 ∧ c' ≠ n + 3 ∧ c' ≠ n + 0 ∧ c' ≠ n + 1 := by
            rcases hc' with z | z
            · subst z; exact ne _ _ q
            · exact ne _ _ z
          exact up c' v' c4 c3 c0 c1 q'
    have iter : ∀ {it t : Addr} {j : Nat}, it ≠ n + 4 → h'.IsTupleIter it t j → g.IsTupleIter it t j := fun hne p => Tn.tupIter_at p fun o q => sg.extBut _ _ hne q
    refine ⟨.ref s.heap.objs.size, _, I1, rfl, ⟨s.heap.objs.size, x, y, hnew, rfl, fun us e => by rw [ha] at e; cases e; exact hx, fun us e => by rw [hb] at e; cases e; exact hy, rfl⟩,
      ⟨zg, up _ _ (Tn.nz 2 4) (Tn.nz 2 3) (Tn.nz 2 0) (Tn.nz 2 1) hTI, ⟨u, v, sg.extBut _ _ (Tn.nz 3 4) o'⟩, iter (Tn.nz 0 4) i1, Tn.tupIter_atL i2 fun o q => sg.extBut _ _ (Tn.nz 1 4) q⟩, fun c hc => ?_⟩
    have hcn : c ≠ s.heap.objs.size := by
      rcases List.mem_cons.mp hc with z | hc
      · subst z; exact Nat.ne_of_lt zlt
      rcases List.mem_cons.mp hc with z | hc
      · subst z; exact Nat.ne_of_lt (Heap.lt_size hTI)
      rcases List.mem_cons.mp hc with z | hc
      · subst z; exact Nat.ne_of_lt (Heap.lt_size hTO)
      rcases List.mem_cons.mp hc with z | hc
      · subst z; exact Nat.ne_of_lt (let ⟨_, e, _⟩ := h1; Heap.lt_size e)
      · rw [List.mem_singleton.mp hc]; exact Nat.ne_of_lt (let ⟨_, e, _⟩ := h2; Heap.lt_size e)
    rw [upd_ne hcn]
    exact (hf c hc).1
  done := by
    intro X hP hw hK hc i pins s σ H E I hf st hg
    subst hP hw hK
    obtain ⟨xs, ys, ha, hb, hl⟩ := hg
    obtain ⟨its, rv, p1, _⟩ := I.tuple (SqT.of (K := X.K) ha)
    obtain ⟨hz, hTI, _, h1, h2⟩ := st
    have hlen := rv.length
    have f4 := hf (n + 4) (by simp)
    have f0 := hf (n + 0) (by simp)
    have ea4 : a ≠ n + 4 := fun q => by rw [q, f4.1] at ha; cases ha
    refine Tn.nextZ_end (I.ok.hd hc) ea4 hz hTI h1 (show s.heap.IsTuple a its.toArray from p1) (by simp; omega) fun h' kp => ⟨rfl, ?_⟩
    refine I.turned2 (t' := s.toks) (fun c o c4 c0 q => kp c o c4 c0 q) f4 f0
  self := fun _ i s Q E st h => wpAny_pyIter_zip st.1 h
def iZipL (ta : TA) : TI := fun σ H R => ta σ H fun vs H1 => ∃ a b xs ys, vs = [.ref a, .ref b] ∧ H1 a = some (.tup xs) ∧ H1 b = some (.lst ys) ∧ R (Itzl a b) H1
theorem pi_zipTL {e e' : Expr} {ta : TA} {p pos tp : Pos} {elts : List Expr} {k : Nat} (hg : Gl X "zip") (hm : X.mg "zip" = none) (ha : PA X [e, e'] ta) (hs : starEach [e, e'] X.env = (false, eval e X.env) :: starEach [e'] X.env := by rfl) (hpl : (backTo pos (starEach [e'] X.env)).any (·.1) = false := by rfl) :
    PI X (.Tuple elts k tp) (.Call (.Name "zip" p) [e, e'] [] pos) (iZipL ta) := by
  intro pins s σ H R I h
  refine Call_ (ld_blt I hg hm (by decide +kernel : bootBuiltins "zip" = some (.type "zip")) (PyProof.Rows.callWith_type1 (thn (ha pos pins s σ H _ I h) fun us s1 ⟨vs, H1, I1, r1, q1⟩ => ?_) hs hpl))
  obtain ⟨a, b, xs, ys, rfl, h1, h2, q⟩ := q1
  obtain ⟨u, u', rfl, rx, ry⟩ := r1.two
  cases rx
  cases ry
  obtain ⟨its, rv, p1, _⟩ := I1.tuple (SqT.of (K := X.K) h1)
  obtain ⟨jts, rw', p2, _⟩ := I1.list (SqL.of (K := X.K) h2)
  refine Tn.call_zipL (show s1.heap.IsTuple a its.toArray from p1) p2.isList fun g hz hTI hTO i1 i2 kp => ?_
  refine wpAny_pyIter_zip (s := { s1 with heap := g }) hz ?_
  have I2 : Inv X pins σ H1 { s1 with heap := g } := I1.kept (t' := s1.toks) kp
  have fr : ∀ b, s1.heap.objs.size ≤ b → FpOk X pins H1 b := fun b hb => I1.fpOk hb (I1.hok.fresh hb)
  refine ⟨_, [s1.heap.objs.size + 4, s1.heap.objs.size + 2, s1.heap.objs.size + 3, s1.heap.objs.size + 0, s1.heap.objs.size + 1], _, Itzl a b, H1, rfl, I2, turn_zipL a b s1.heap.objs.size, ⟨hz, hTI, ⟨_, _, hTO⟩, i1, i2⟩, fun c hc => fr c ?_, q⟩
  rcases List.mem_cons.mp hc with z | hc
  · rw [z]; exact Nat.le_add_right _ _
  rcases List.mem_cons.mp hc with z | hc
  · rw [z]; exact Nat.le_add_right _ _
  rcases List.mem_cons.mp hc with z | hc
  · rw [z]; exact Nat.le_add_right _ _
  rcases List.mem_cons.mp hc with z | hc
  · rw [z]; exact Nat.le_add_right _ _
  · rw [List.mem_singleton.mp hc]; exact Nat.le_add_right _ _
theorem for_zipL {a b : Addr} {xs ys : List V} {g : TG} {tb : TS} {D : Ends} {σ : St} {H : Hp} (hlen : xs.length = ys.length) (Pv : Nat → St → Hp → Prop) (h0 : Pv 0 σ H) (hl : ∀ i σ H, i ≤ xs.length → Pv i σ H → H a = some (.tup xs) ∧ H b = some (.lst ys))
    (hs : ∀ i x y σ H p, xs[i]? = some x → ys[i]? = some y → Pv i σ H → H p = none → g (.ref p) σ (upd H p (.tup [x, y])) fun σ2 H2 => tb { D with nx := Pv (i + 1), ct := Pv (i + 1), bk := D.nx } σ2 H2) (hd : ∀ σ H, Pv xs.length σ H → D.nx σ H) :
    ∃ W : Nat → Nat → St → Hp → Prop, (∃ m, W 0 m σ H) ∧ ∀ i m σ H, W i m σ H →
      ((Itzl a b).stop i H ∧ D.nx σ H) ∨ ((Itzl a b).go i H ∧ ∃ N : St → Hp → Prop, (∀ σ' H', N σ' H' → ∃ m', m' < m ∧ W (i + 1) m' σ' H') ∧ ∀ x H', (Itzl a b).yld i H x H' → g x σ H' fun σ2 H2 => tb { D with nx := N, ct := N, bk := D.nx } σ2 H2) := by
  refine ⟨fun i m σ H => m = xs.length - i ∧ i ≤ xs.length ∧ Pv i σ H, ⟨xs.length, by simp, Nat.zero_le _, h0⟩, ?_⟩
  rintro i m σ H ⟨rfl, hi, p⟩
  obtain ⟨q1, q2⟩ := hl i σ H hi p
  by_cases hlt : i < xs.length
  · refine .inr ⟨⟨xs, ys, xs[i], ys[i]'(by omega), q1, q2, by simp [hlt], by simp [show i < ys.length by omega]⟩, Pv (i + 1), fun σ' H' p' => ⟨xs.length - (i + 1), by omega, rfl, hlt, p'⟩, fun v H' z => ?_⟩
    obtain ⟨pp, x, y, hp, rfl, hx, hy, rfl⟩ := z
    exact hs i x y σ H pp (hx xs q1) (hy ys q2) p hp
  · have e : i = xs.length := by omega
    subst e
    exact .inl ⟨⟨xs, ys, q1, q2, rfl⟩, hd σ H p⟩
end
end L2
namespace L2
open PySem PySem.Spec PyProof.Rows
def cSt2 (σ : St) (js : List Nat) : St := none :: none :: js.map fun j => (σ[j]?).getD none
structure CScope2 (S scope : Scope) (x x2 : Str) (N : List Str) (P : List Str) (js : List Nat) : Prop where
  kind : scope.kind = .function
  nocell : ∀ y ∈ scope.names, y.2 ≠ .cell
  loc : ∀ y ∈ scope.names, y.2 = .local → scope.names.lookup y.1 = some .local
  free : ∀ y ∈ scope.names, y.2 = .free → S.names.lookup y.1 = some .cell ∨ S.names.lookup y.1 = some .free
  own : scope.names.lookup x = some .local
  own2 : scope.names.lookup x2 = some .local
  nd : N.Nodup
  hd : N = x :: x2 :: (js.map fun j => (P[j]?).getD x)
  fr : ∀ j ∈ js, ∃ y, P[j]? = some y ∧ scope.names.lookup y = some .free
def csB2 (S scope : Scope) (x x2 : Str) (N P : List Str) (js : List Nat) : Bool :=
  (scope.kind == .function) && scope.names.all (fun y => !(y.2 == .cell)) && scope.names.all (fun y => !(y.2 == .local) || scope.names.lookup y.1 == some .local) &&
  scope.names.all (fun y => !(y.2 == .free) || (S.names.lookup y.1 == some .cell || S.names.lookup y.1 == some .free)) && (scope.names.lookup x == some .local) && (scope.names.lookup x2 == some .local) && decide N.Nodup && (N == x :: x2 :: (js.map fun j => (P[j]?).getD x)) &&
  js.all (fun j => match P[j]? with | some y => scope.names.lookup y == some .free | none => false)
theorem cs2_of {S scope : Scope} {x x2 : Str} {N P : List Str} {js : List Nat} (h : csB2 S scope x x2 N P js = true) : CScope2 S scope x x2 N P js := by
  unfold csB2 at h
  simp only [Bool.and_eq_true, List.all_eq_true, beq_iff_eq, decide_eq_true_eq, Bool.or_eq_true, Bool.not_eq_true'] at h
  obtain ⟨⟨⟨⟨⟨⟨⟨⟨h1, h2⟩, h3⟩, h4⟩, h5⟩, h5'⟩, h6⟩, h7⟩, h8⟩ := h
  refine ⟨h1, fun y hy e => ?_, fun y hy e => ?_, fun y hy e => ?_, h5, h5', h6, h7, fun j hj => ?_⟩
  · have := h2 y hy; rw [e] at this; exact absurd this (by decide)
  · rcases h3 y hy with z | z
    · rw [e] at z; exact absurd z (by decide)
    · exact z
  · rcases h4 y hy with z | z
    · rw [e] at z; exact absurd z (by decide)
    · exact z
  · have := h8 j hj
    split at this
    · rename_i y ey
      exact ⟨y, ey, by simpa using this⟩
    · cases this
section
variable {X : Cx} {pins : List (Addr × Obj)} {σ : St} {H : Hp} {s : Shared} {scope S : Scope} {cl : List (Str × Addr)} {C : Addr} {N : List Str} {fp : List Addr} {x x2 : Str} {js : List Nat}
theorem cxC_ok2 (I : Inv X pins σ H s) (Sc : CScope2 S scope x x2 N X.N js) (hC : s.heap.objs.size ≤ C) (h1 : ∀ y c, cl.lookup y = some c → X.env.cells.lookup y = some c)
    (h2 : ∀ y ∈ scope.names, y.2 = .free → ∃ c, cl.lookup y.1 = some c) (hfp : ∀ b ∈ fp, FpOk X pins H b) (hlt : ∀ b ∈ fp, b < s.heap.objs.size) : (cxC X scope cl C N fp s H).Ok where
  mod := I.ok.mod
  kind := Sc.kind
  glob := I.ok.glob
  blt := I.ok.blt
  above := hC
  inj := fun y z c e1 e2 => I.ok.inj y z c (h1 _ _ e1) (h1 _ _ e2)
  has := fun y hy => by
    have go : ∀ k, (scope.names.map (relF X.env)).lookup y = some k → (k = .cell ∨ k = .free) → ∃ c, cl.lookup y = some c := fun k e hk => by
      obtain ⟨k0, e0, hh⟩ := look_rel e
      have m := PySem.mem_of_lookup e0
      have hf : k0 = .free := by
        rcases hh with z | z
        · rcases hk with q | q
          · exact absurd (z.symm.trans q) (Sc.nocell _ m)
          · exact z.symm.trans q
        · exact z.1
      exact h2 (y, k0) m hf
    rcases hy with e | e
    · exact go _ e (.inl rfl)
    · exact go _ e (.inr rfl)
  cab := fun _ _ h => nomatch h
  hd := I.ok.hd
  frames := I.ok.frames
  stk := .inl rfl
  exf := fun b hb => ⟨Nat.ne_of_lt (Nat.lt_of_lt_of_le (hlt b hb) hC), fun y c e => (hfp b hb).2.2.2.2.1 y c (h1 _ _ e)⟩
  bs := fun b o e => I.bs b o e
  bsz := Nat.le_trans I.ok.bsz I.sz
  noex := fun b o e hb => by
    rcases (hfp b hb).2.2.2.1 with z | z
    · exact I.ok.noex b o e z
    · exact absurd (Nat.lt_of_lt_of_le (Heap.lt_size e) (Nat.le_trans I.ok.bsz z)) (Nat.lt_irrefl _)
  exfs := fun b hb hs => by
    rcases List.mem_cons.mp (I.stkSub b hs) with z | z
    · exact (hfp b hb).2.1 z
    · exact (hfp b hb).2.2.1 z
  funs := I.stack
  frf := I.stkFree
theorem cxC_inv2 (I : Inv X pins σ H s) (hS : X.env.scope = S) (Sc : CScope2 S scope x x2 N X.N js) (hC : s.heap.objs.size ≤ C) (h1 : ∀ y c, cl.lookup y = some c → X.env.cells.lookup y = some c)
    (h2 : ∀ y ∈ scope.names, y.2 = .free → ∃ c, cl.lookup y.1 = some c) (hfp : ∀ b ∈ fp, FpOk X pins H b) (hlt : ∀ b ∈ fp, b < s.heap.objs.size)
    {h4 : Heap} {tk : Nat} {m : Str → Option Value} (hns : h4.Ns C m) (hk : ∀ b o, s.heap.get? b = some o → h4.get? b = some o) :
    Inv (cxC X scope cl C N fp s H) [] (cSt2 σ js) H { s with heap := h4, toks := tk } := by
  refine ⟨cxC_ok2 I Sc hC h1 h2 hfp hlt, rfl, I.bare, Un.kept hk, ⟨m, hns, fun i y v hi hv hvis => ?_⟩, fun y c e => ?_, I.hok.fresh hC, fun y c e => I.freeC y c (h1 _ _ e), fun p hp => absurd (show p ∈ ([] : List (Addr × Obj)) from hp) (by simp), I.hok.kept hk, ?_⟩
  · cases i with
    | zero => exact absurd (show some (none : Option V) = some (some v) from hv) (by simp)
    | succ i' =>
     cases i' with
     | zero => exact absurd (show some (none : Option V) = some (some v) from hv) (by simp)
     | succ i =>
      have hi : N[i + 2]? = some y := hi
      rw [Sc.hd, List.getElem?_cons_succ, List.getElem?_cons_succ, List.getElem?_map] at hi
      have hv : (js.map fun j => (σ[j]?).getD none)[i]? = some (some v) := hv
      rw [List.getElem?_map] at hv
      cases ej : js[i]? with
      | none => rw [ej] at hv; cases hv
      | some j =>
        rw [ej] at hi hv
        have hv : (σ[j]?).getD none = some v := Option.some.inj hv
        have hi : (X.N[j]?).getD x = y := Option.some.inj hi
        obtain ⟨y', ey, hfr⟩ := Sc.fr j (List.mem_of_getElem? ej)
        rw [ey] at hi
        have hi : y' = y := hi
        subst hi
        have hσ : σ[j]? = some (some v) := by
          cases e : σ[j]? with
          | none => rw [e] at hv; cases hv
          | some o => rw [e] at hv; exact congrArg some hv
        have kX := Sc.free _ (PySem.mem_of_lookup hfr) rfl
        rw [← hS] at kX
        obtain ⟨mX, hnX, hl⟩ := I.loc
        obtain ⟨u, r, L⟩ := hl j y' v ey hσ (.inr kX)
        refine ⟨u, r, ?_⟩
        rcases L with ⟨kl, _⟩ | ⟨_, c, ec, z⟩
        · have kl : X.env.scope.names.lookup y' = some .local := kl
          rcases kX with q | q
          · rw [q] at kl; cases kl
          · rw [q] at kl; cases kl
        · obtain ⟨c', ec'⟩ := h2 _ (PySem.mem_of_lookup hfr) rfl
          have ecc : c' = c := Option.some.inj ((h1 _ _ ec').symm.trans ec)
          subst ecc
          obtain ⟨o, ho, hd⟩ := z
          refine .inr ⟨?_, c', ec', o, hk _ _ ho, hd⟩
          obtain ⟨k, e, hh⟩ := look_unrel (env := X.env) hfr
          rcases hh with q | q
          · exact .inr (show (scope.names.map (relF X.env)).lookup y' = some .free from q ▸ e)
          · exact .inl (show (scope.names.map (relF X.env)).lookup y' = some .cell from q.2 ▸ e)
  · obtain ⟨v, o, ho, hd⟩ := I.cell y c (h1 _ _ e)
    exact ⟨v, o, hk _ _ ho, hd⟩
  · show (cSt2 σ js).length = N.length
    rw [Sc.hd]
    simp [cSt2]
end
section
variable {X : Cx} {pins : List (Addr × Obj)} {σ : St} {H : Hp} {s : Shared} {scope S : Scope} {cl : List (Str × Addr)} {N : List Str} {fp : List Addr} {x x2 : Str} {js : List Nat}
def CompW2 (J : It) (g : TG) (tc : TT) (te : TE) (js : List Nat) (σ : St) (H1 : Hp) (Q : VK) (D : Addr) : Prop :=
  ∃ W : Nat → Nat → List V → St → Hp → Prop, (∃ m, W 0 m [] (cSt2 σ js) (upd H1 D (.lst []))) ∧ ∀ i m acc σ' H', W i m acc σ' H' → H' D = some (.lst acc) ∧
    ((J.stop i H' ∧ Q (.ref D) H') ∨ (J.go i H' ∧ acc.length < sizeLine ∧ ∀ y H2, J.yld i H' y H2 → g y σ' H2 fun σ3 H3 => tc σ3 H3 fun b H4 =>
      if b = true then te σ3 H4 fun z H5 => H5 D = some (.lst acc) ∧ ∃ m', m' < m ∧ W (i + 1) m' (acc ++ [z]) σ3 (upd H5 D (.lst (acc ++ [z])))
      else ∃ m', m' < m ∧ W (i + 1) m' acc σ3 H4))
def tComp2 (wi : TI) (g : TG) (tc : TT) (te : TE) (js : List Nat) : TE := fun σ H Q => wi σ H fun J H1 => ∀ D, H1 D = none → CompW2 J g tc te js σ H1 Q D
theorem comp_block2 {E : Value → Shared → Prop} {elt iter tg : Expr} {ifs : List Expr} {pos : Pos} {J : It} {tn : Nat → Heap → Prop} {it : Addr} {g : TG} {tc : TT} {te : TE} {Q : VK} {RR : Value → Addr → Result → Shared → Prop}
    (hc : X.calm = true) (I2 : Inv X pins σ H s) (hS : X.env.scope = S) (Sc : CScope2 S scope x x2 N X.N js) (h1 : ∀ y c, cl.lookup y = some c → X.env.cells.lookup y = some c)
    (h2 : ∀ y ∈ scope.names, y.2 = .free → ∃ c, cl.lookup y.1 = some c) (T : Turn X.prog X.w X.K tg J fp it tn) (st2 : tn 0 s.heap) (f2 : ∀ b ∈ fp, FpOk X pins H b)
    (hg : ∀ cl C fp s H, PG (cxC X scope cl C N fp s H) tg g) (ht : ∀ cl C fp s H, PTs (cxC X scope cl C N fp s H) ifs tc) (he : ∀ cl C fp s H, PE (cxC X scope cl C N fp s H) elt te)
    (q : ∀ D, H D = none → CompW2 J g tc te js σ H Q D)
    (hRR : ∀ D C H' s', Inv X pins σ H' s' → FpOk X pins H' C → (∃ m, s'.heap.Ns C m) → Q (.ref D) H' → RR (.ref D) C (.ok .next) s') :
    wpAny (model X.prog X.w) X.A (newList []) (fun acc s₃ => wpAny (model X.prog X.w) X.A (newFunctionEnv scope X.env.globals cl [] X.env.qual none .none (some X.env)) (fun cenv s₄ =>
      codeAny (model X.prog X.w) X.A (.compStart (.ListComp elt [⟨tg, iter, ifs, 0⟩] scope pos) 0 (.ref it) acc { cenv with scope := relabel scope X.env }) (RR acc cenv.locals) s₄) E s₃) E s := by
  refine wpAny_newObj_type (wpAny_newFunctionEnv Sc.nocell (by intro y hy; simp at hy) (fun h₁ hns₁ hsb₁ => ?_) Sc.kind)
  dsimp only at hns₁ hsb₁ ⊢
  have I3 : Inv X pins σ (upd H s.heap.objs.size (.lst [])) { s with heap := s.heap.push { cls := .type "list", dict := none, data := .seq ([] : List Value).toArray } } := I2.lnew (its := []) (t' := s.toks) .nil (Nat.zero_le _)
  have hD0 : H s.heap.objs.size = none := I2.hok.fresh (Nat.le_refl _)
  obtain ⟨W, ⟨m0, w0⟩, turn⟩ := q s.heap.objs.size hD0
  generalize hHP : s.heap.push { cls := .type "list", dict := none, data := .seq ([] : List Value).toArray } = HP at hns₁ hsb₁ I3 ⊢
  have hsz : HP.objs.size = s.heap.objs.size + 1 := by rw [← hHP, Heap.size_push]
  have kp : ∀ b o, HP.get? b = some o → h₁.get? b = some o := fun b o e => hsb₁.extBut b o (Nat.ne_of_lt (Heap.lt_size e)) (Heap.get?_push_of_some _ e)
  have lt2 : ∀ b ∈ fp, b < s.heap.objs.size := fun b hb => by
    obtain ⟨o, e, _⟩ := T.obj 0 _ st2 b hb
    exact Heap.lt_size e
  have f3 : ∀ b ∈ fp, FpOk X pins (upd H s.heap.objs.size (.lst [])) b := fun b hb => ⟨by rw [upd_ne (Nat.ne_of_lt (lt2 b hb))]; exact (f2 b hb).1, (f2 b hb).2⟩
  have lt3 : ∀ b ∈ fp, b < HP.objs.size := fun b hb => by rw [hsz]; exact Nat.lt_succ_of_lt (lt2 b hb)
  have IB : Inv (cxC X scope cl HP.objs.size N fp { s with heap := HP } (upd H s.heap.objs.size (.lst []))) [] (cSt2 σ js) (upd H s.heap.objs.size (.lst [])) { s with heap := h₁, toks := s.toks + ([] : List (Str × Value)).length } :=
    cxC_inv2 (s := { s with heap := HP }) I3 hS Sc (Nat.le_refl _) h1 h2 f3 lt3 hns₁ kp
  have st1 : tn 0 h₁ := T.keep 0 _ _ st2 fun b _ o e => kp b o (by rw [← hHP]; exact Heap.get?_push_of_some _ e)
  have loop : codeAny (model X.prog X.w) X.A (.compLoop (.ListComp elt [⟨tg, iter, ifs, 0⟩] scope pos) 0 (.ref it) (.ref s.heap.objs.size) (compEnvC scope cl HP.objs.size X.env))
      (RR (.ref s.heap.objs.size) HP.objs.size) { s with heap := h₁, toks := s.toks + ([] : List (Str × Value)).length } := by
    have stat : ∀ {H' : Hp}, (∀ b ∈ fp, H' b = none) → ∀ b ∈ fp, FpOk (cxC X scope cl HP.objs.size N fp { s with heap := HP } (upd H s.heap.objs.size (.lst []))) [] H' b := fun {H'} hn b hb =>
      ⟨hn b hb, Nat.ne_of_lt (lt3 b hb), fun hs => by
        rcases List.mem_cons.mp (I3.stkSub b hs) with z | z
        · exact (f3 b hb).2.1 z
        · exact (f3 b hb).2.2.1 z, .inl hb, fun y c e => (f3 b hb).2.2.2.2.1 y c (h1 _ _ e), fun p hp => absurd (show p ∈ ([] : List (Addr × Obj)) from hp) (by simp)⟩
    refine compLoop_go (fun n s' => ∃ i acc σ' H', Inv (cxC X scope cl HP.objs.size N fp { s with heap := HP } (upd H s.heap.objs.size (.lst []))) [] σ' H' s' ∧ tn i s'.heap ∧ (∀ b ∈ fp, H' b = none) ∧ W i n acc σ' H') ?_ m0
      ⟨0, [], _, _, IB, st1, fun b hb => (f3 b hb).1, w0⟩
    rintro n s5 ⟨i, acc, σ5, H5, I5, st5, fr5, w5⟩
    obtain ⟨hD, alt⟩ := turn i n acc σ5 H5 w5
    rcases alt with ⟨stop, qn⟩ | ⟨go, hz, step⟩
    · refine thn (T.done (cxC X scope cl HP.objs.size N fp { s with heap := HP } (upd H s.heap.objs.size (.lst []))) rfl rfl rfl hc i [] s5 σ5 H5 _ I5 (stat fr5) st5 stop) fun r s6 ⟨hr, I6⟩ => ?_
      subst hr
      have hfin : Inv X pins σ H5 s6 := I3.call' (ch := fp) I6.os I6.base I6.hok I6.bare fun b hb => ⟨(f3 b hb).2.2.2.1, (f3 b hb).2.1, (f3 b hb).2.2.2.2.1, (f3 b hb).2.2.2.2.2⟩
      obtain ⟨m, hm, _⟩ := I6.loc
      exact hRR _ _ H5 s6 hfin (I3.fpOk (Nat.le_refl _) I6.free) ⟨m, hm⟩ qn
    · refine thn (T.item (cxC X scope cl HP.objs.size N fp { s with heap := HP } (upd H s.heap.objs.size (.lst []))) rfl rfl rfl hc i [] s5 σ5 H5 _ I5 (stat fr5) st5 go) fun r s6 ⟨u, hr, h6⟩ => ?_
      subst hr
      refine thn h6 fun _ s7 ⟨y, H7, I7, r7, y7, st7, fr7⟩ => ?_
      have I7' := I7.pinned (stat fr7) (T.obj _ _ st7)
      refine thn (hg _ _ _ _ _ _ s7 σ5 H7 y u _ I7' r7 (step y H7 y7)) fun _ s8 ⟨σ8, H8, I8, q8⟩ => ?_
      have keepIt : ∀ {σ' : St} {H' : Hp} {s' : Shared}, Inv (cxC X scope cl HP.objs.size N fp { s with heap := HP } (upd H s.heap.objs.size (.lst []))) ([] ++ pinsAt fp s7.heap) σ' H' s' → tn (i + 1) s'.heap ∧ ∀ b ∈ fp, H' b = none := fun {σ' H' s'} J' =>
        ⟨T.keep _ _ _ st7 fun b hb o e => (J'.pin (b, o) (List.mem_append_right _ (List.mem_append_right _ (mem_pinsAt hb e)))).1, fun b hb => by
          obtain ⟨o, e, _⟩ := T.obj _ _ st7 b hb
          exact (J'.pin (b, o) (List.mem_append_right _ (List.mem_append_right _ (mem_pinsAt hb e)))).2.1⟩
      refine thn (ht _ _ _ _ _ _ s8 σ8 H8 _ I8 q8) fun ok s9 ⟨H9, I9, q9⟩ => ?_
      cases ok with
      | false =>
        obtain ⟨m', hm, w9⟩ := q9
        obtain ⟨t9, n9⟩ := keepIt I9
        exact ⟨m', hm, i + 1, acc, σ8, H9, I9.unpinned, t9, n9, w9⟩
      | true =>
        refine thn (he _ _ _ _ _ _ s9 σ8 H9 _ I9 q9) fun v s10 ⟨z, H10, I10, r10, hD10, m', hm, w10⟩ => ?_
        refine thn (mt_append _ s10 σ8 H10 (.ref s.heap.objs.size) [z] (.ref s.heap.objs.size) [v] (fun _ H11 => ∃ m', m' < n ∧ W (i + 1) m' (acc ++ [z]) σ8 H11) I10 rfl (.cons r10 .nil) ⟨_, acc, z, rfl, rfl, hD10, hz, m', hm, w10⟩) fun _ s11 ⟨_, H11, I11, _, m2, hm2, w11⟩ => ?_
        obtain ⟨t11, n11⟩ := keepIt I11
        exact ⟨m2, hm2, i + 1, acc ++ [z], σ8, H11, I11.unpinned, t11, n11, w11⟩
  exact codeAny_compStart_list loop (T.self _ 0 _ _ _ st1 loop)
variable {elt iter tg : Expr} {ifs : List Expr} {pos : Pos} {wi : TI} {g : TG} {tc : TT} {te : TE}
theorem pe_comp2 (hS : X.env.scope = S) (Sc : CScope2 S scope x x2 N X.N js) (hc : X.calm = true) (hi : PI X tg iter wi)
    (hg : ∀ cl C fp s H, PG (cxC X scope cl C N fp s H) tg g) (ht : ∀ cl C fp s H, PTs (cxC X scope cl C N fp s H) ifs tc) (he : ∀ cl C fp s H, PE (cxC X scope cl C N fp s H) elt te)
    (hs : ∀ x, foldedSetIterable iter X.env x = pure x := by intro _; rfl) : PE X (.ListComp elt [⟨tg, iter, ifs, 0⟩] scope pos) (tComp2 wi g tc te js) := by
  intro pins s σ H Q I h
  obtain ⟨cl, hcl, h1, h2⟩ := closure_of (scope := scope) (env := X.env) fun y hy hf => I.ok.has y.1 (by have := Sc.free y hy hf; rw [← hS] at this; exact this)
  rw [eval_ListComp]
  refine wpAny_comprehension_free (use := none) rfl hs hcl Sc.kind Sc.loc (thn (hi pins s σ H _ I h) fun xv s1 h1' => thn h1' fun itv s2 h2' => ?_)
  obtain ⟨it, fp, tn, J, H2, rfl, I2, T, st2, f2, q⟩ := h2'
  refine comp_block2 (RR := fun acc C => compPost (model X.prog X.w) X.A X.xe none (EP X pins σ Q) acc C) hc I2 hS Sc h1 h2 T st2 f2 hg ht he q ?_
  rintro D C H' s' I' f' ⟨m, hm⟩ qD
  exact ⟨m, hm, fun h' hs' => ⟨.ref D, H', I'.turned (t' := s'.toks) (fun b o hb e => (hs'.2 b hb).trans e) f'.1 f'.2.1 f'.2.2.2.1 f'.2.2.2.2.1 f'.2.2.2.2.2, rfl, qD⟩⟩
end
theorem comp_pairs {K : PySem.W.Frag} {J : It} {n : Nat} {te : TE} {js : List Nat} {σ : St} {H1 : Hp} {Q : VK} {D : Addr} (P : Nat → List V → Hp → Prop) (h0 : P 0 [] (upd H1 D (.lst []))) (hD : ∀ i acc H', P i acc H' → H' D = some (.lst acc) ∧ acc.length = i) (hn : n ≤ sizeLine)
    (hgo : ∀ i acc H', i < n → P i acc H' → J.go i H') (hst : ∀ acc H', P n acc H' → J.stop n H' ∧ Q (.ref D) H')
    (hstep : ∀ i acc H' y H2, i < n → P i acc H' → J.yld i H' y H2 → ∃ p a b, y = .ref p ∧ SqT K H2 p [a, b] ∧ ∀ R : VK, (∀ z H5, H5 D = some (.lst acc) → P (i + 1) (acc ++ [z]) (upd H5 D (.lst (acc ++ [z]))) → R z H5) →
      te (some a :: some b :: js.map fun j => (σ[j]?).getD none) H2 R) :
    CompW2 J (gTup K 2 (gCons (gName 0) (gCons (gName 1) gNil))) tYes te js σ H1 Q D := by
  refine ⟨fun i m acc σ' H' => m = n - i ∧ i ≤ n ∧ P i acc H' ∧ ∃ v v', σ' = v :: v' :: js.map fun j => (σ[j]?).getD none, ⟨n, by simp, Nat.zero_le _, h0, none, none, rfl⟩, ?_⟩
  rintro i m acc σ' H' ⟨rfl, hi, hP, v, v', rfl⟩
  refine ⟨(hD i acc H' hP).1, ?_⟩
  by_cases hlt : i < n
  · refine .inr ⟨hgo i acc H' hlt hP, by have := (hD i acc H' hP).2; omega, fun y H2 hy => ?_⟩
    obtain ⟨p, a, b, e, hs, ht⟩ := hstep i acc H' y H2 hlt hP hy
    exact ⟨p, [a, b], e, hs, rfl, a, [b], rfl, b, [], rfl, rfl, ht _ fun z H5 e1 e2 => ⟨e1, n - (i + 1), by omega, rfl, hlt, e2, _, _, rfl⟩⟩
  · have e : i = n := by omega
    subst e
    exact .inl (hst acc H' hP)
end L2
namespace L2
open PySem
def rLstOf (K : PySem.W.Frag) : List V → Hp → VK → Prop := fun xs H Q => ∃ p ys, xs = [.ref p] ∧ (SqL K H p ys ∨ SqT K H p ys) ∧ ∀ l, H l = none → Q (.ref l) (upd H l (.lst ys))
end L2
namespace Tn
open PySem L2
def allO {α : Type} : List (Option α) → Option (List α)
  | [] => some []
  | none :: _ => none
  | some a :: r => (allO r).map (a :: ·)
theorem allO_some {α : Type} : ∀ (l : List α), allO (l.map some) = some l
  | [] => rfl
  | a :: l => by
    show (allO (l.map some)).map (a :: ·) = _
    rw [allO_some l]
    rfl
theorem allO_none {α : Type} : ∀ {l : List (Option α)} {i : Nat}, l[i]? = some none → allO l = none
  | [], _, h => by simp at h
  | none :: _, _, _ => rfl
  | some a :: r, 0, h => by simp at h
  | some a :: r, i + 1, h => by
    show (allO r).map (a :: ·) = none
    rw [allO_none (l := r) (i := i) (by simpa using h)]
    rfl
theorem allO_snoc {α : Type} (a : α) : ∀ {l : List (Option α)} {ns : List α}, allO l = some ns → allO (l ++ [some a]) = some (ns ++ [a])
  | [], ns, h => by
    have h : some [] = some ns := h
    cases h
    rfl
  | none :: _, ns, h => by cases h
  | some b :: r, ns, h => by
    have h : (allO r).map (b :: ·) = some ns := h
    cases hr : allO r with
    | none => rw [hr] at h; cases h
    | some ms =>
      rw [hr] at h
      cases h
      show (allO (r ++ [some a])).map (b :: ·) = _
      rw [allO_snoc a hr]
      rfl
def firstsF (ps : List Nat) : List Nat := 0 :: ps
def behindsF (n : Nat) (ps : List Nat) : List Nat := ps ++ [n]
def stretchF (ord : List Int) (ps : List Nat) : List (List Int) := ((firstsF ps).zip (behindsF ord.length ps)).map fun ab => (ord.drop ab.1).take (ab.2 - ab.1)
def nestF : Nat → List Int → Option Nest
  | 0, _ => none
  | d + 1, ord => if ord.length = 1 then some .word else if (cutF ord).2 = [] then none else
    (allO ((stretchF ord (cutF ord).2).map fun b => nestF d (leftF ord b))).map fun ns => if (cutF ord).1 = kS false then .knot false ns.reverse else .knot true ns
def Asc (n : Nat) (ps : List Nat) : Prop := ps.Pairwise (· < ·) ∧ ∀ p ∈ ps, 1 ≤ p ∧ p < n
theorem places_asc (ord : List Int) (q : Nat → Bool) (k : Nat) : (places ord q k).Pairwise (· < ·) ∧ ∀ p ∈ places ord q k, 1 ≤ p ∧ p ≤ k ∧ q p = true := by
  unfold places
  refine ⟨List.Pairwise.filter _ ?_, fun p hp => ?_⟩
  · rw [List.pairwise_map]
    exact (List.pairwise_lt_range (n := k)).imp fun h => by omega
  · obtain ⟨h1, h2⟩ := List.mem_filter.mp hp
    obtain ⟨i, hi, rfl⟩ := List.mem_map.mp h1
    have := List.mem_range.mp hi
    exact ⟨by omega, by omega, h2⟩
theorem cut_asc (ord : List Int) : Asc ord.length (cutF ord).2 := by
  have h1 := places_asc ord (upB ord) (ord.length - 1)
  have h2 := places_asc ord (dnB ord) (ord.length - 1)
  unfold cutF
  split
  · split
    · exact ⟨.nil, fun _ h => nomatch h⟩
    · exact ⟨h2.1, fun p hp => by have := h2.2 p hp; exact ⟨this.1, by omega⟩⟩
  · exact ⟨h1.1, fun p hp => by have := h1.2 p hp; exact ⟨this.1, by omega⟩⟩
theorem firsts_len (n : Nat) (ps : List Nat) : (firstsF ps).length = (behindsF n ps).length := by simp [firstsF, behindsF]
theorem asc_at {n : Nat} {ps : List Nat} (h : Asc n ps) (hn : 1 ≤ n) {i a c : Nat} (ha : (firstsF ps)[i]? = some a) (hc : (behindsF n ps)[i]? = some c) : a < c ∧ c ≤ n := by
  unfold firstsF at ha
  unfold behindsF at hc
  have hc1 : (i < ps.length ∧ ps[i]? = some c) ∨ (i = ps.length ∧ c = n) := by
    by_cases hi : i < ps.length
    · rw [List.getElem?_append_left hi] at hc
      exact .inl ⟨hi, hc⟩
    · rw [List.getElem?_append_right (by omega)] at hc
      by_cases he : i = ps.length
      · subst he
        have : n = c := by simpa using hc
        exact .inr ⟨rfl, this.symm⟩
      · rw [List.getElem?_eq_none (by simp; omega)] at hc
        cases hc
  have hcn : c ≤ n := by
    rcases hc1 with ⟨_, h1⟩ | ⟨_, rfl⟩
    · have := h.2 c (List.mem_of_getElem? h1)
      omega
    · exact Nat.le_refl _
  refine ⟨?_, hcn⟩
  cases i with
  | zero =>
    have : 0 = a := by simpa using ha
    subst this
    rcases hc1 with ⟨_, h1⟩ | ⟨_, rfl⟩
    · have := h.2 c (List.mem_of_getElem? h1)
      omega
    · omega
  | succ j =>
    have ha : ps[j]? = some a := by simpa using ha
    rcases hc1 with ⟨hi, h1⟩ | ⟨_, rfl⟩
    · have hj := List.getElem?_eq_some_iff.mp ha
      have hi' := List.getElem?_eq_some_iff.mp h1
      have := List.pairwise_iff_getElem.mp h.1 j (j + 1) (by omega) (by omega) (by omega)
      rw [hj.2, hi'.2] at this
      exact this
    · have := h.2 a (List.mem_of_getElem? ha)
      omega
theorem not_whole {n : Nat} {ps : List Nat} (h : Asc n ps) (hne : ps ≠ []) {i a c : Nat} (ha : (firstsF ps)[i]? = some a) (hc : (behindsF n ps)[i]? = some c) : ¬ (a = 0 ∧ c = n) := by
  rintro ⟨rfl, rfl⟩
  unfold firstsF at ha
  unfold behindsF at hc
  cases i with
  | zero =>
    cases ps with
    | nil => exact hne rfl
    | cons p r =>
      have : p = c := by simpa using hc
      have := h.2 p List.mem_cons_self
      omega
  | succ j =>
    have ha : ps[j]? = some 0 := by simpa using ha
    have := h.2 0 (List.mem_of_getElem? ha)
    omega
theorem stretch_get {ord : List Int} {ps : List Nat} {i : Nat} {b : List Int} (h : (stretchF ord ps)[i]? = some b) : ∃ a c, (firstsF ps)[i]? = some a ∧ (behindsF ord.length ps)[i]? = some c ∧ b = (ord.drop a).take (c - a) := by
  unfold stretchF at h
  rw [List.getElem?_map] at h
  cases hz : ((firstsF ps).zip (behindsF ord.length ps))[i]? with
  | none => rw [hz] at h; cases h
  | some ab =>
    rw [hz] at h
    rw [List.getElem?_zip_eq_some] at hz
    exact ⟨ab.1, ab.2, hz.1, hz.2, (Option.some.inj h).symm⟩
theorem stretch_len (ord : List Int) (ps : List Nat) : (stretchF ord ps).length = ps.length + 1 := by
  unfold stretchF
  rw [List.length_map, List.length_zip, ← firsts_len, Nat.min_self]
  rfl
theorem stretch_ok {ord : List Int} {ps : List Nat} (h : Asc ord.length ps) (h1 : 1 ≤ ord.length) (hne : ps ≠ []) {i : Nat} {b : List Int} (hb : (stretchF ord ps)[i]? = some b) : b ≠ [] ∧ b.Sublist ord ∧ b.length < ord.length := by
  obtain ⟨a, c, ha, hc, rfl⟩ := stretch_get hb
  have h2 := asc_at h h1 ha hc
  have h3 := not_whole h hne ha hc
  have hl : ((ord.drop a).take (c - a)).length = c - a := by
    rw [List.length_take, List.length_drop]
    omega
  refine ⟨fun z => ?_, (List.take_sublist _ _).trans (List.drop_sublist _ _), by omega⟩
  rw [z] at hl
  simp at hl
  omega
theorem rank_lt {ws : List Int} {w : Int} (h : w ∈ ws) : rank ws w < ws.length := by
  unfold rank
  rw [← List.countP_eq_length_filter]
  refine Nat.lt_of_le_of_ne (List.countP_le_length) fun e => ?_
  have := List.countP_eq_length.mp e w h
  simp at this
theorem rank_mono {ws : List Int} {v w : Int} (h : v ∈ ws) (hv : v < w) : rank ws v < rank ws w := by
  unfold rank
  have h1 : (ws.filter fun x => decide (x < v)).Sublist (ws.filter fun x => decide (x < w)) := by
    have : ws.filter (fun x => decide (x < v)) = (ws.filter fun x => decide (x < w)).filter fun x => decide (x < v) := by
      rw [List.filter_filter]
      apply List.filter_congr
      intro x _
      by_cases c : x < v
      · simp [c, show x < w by omega]
      · simp [c]
    rw [this]
    exact List.filter_sublist
  refine Nat.lt_of_le_of_ne h1.length_le fun e => ?_
  have e2 := h1.eq_of_length e
  have : v ∈ ws.filter fun x => decide (x < w) := List.mem_filter.mpr ⟨h, by simpa using hv⟩
  rw [← e2] at this
  simp at this
theorem left_ord {ord ws : List Int} (h : IsOrd ord) (nd : ws.Nodup) (hs : ∀ w ∈ ws, w ∈ ord) : IsOrd (leftF ord ws) ∧ (leftF ord ws).length = ws.length := by
  have hp : (ord.filter fun w => decide (w ∈ ws)).Perm ws := by
    refine (perm_of_sub nd (fun a ha => List.mem_filter.mpr ⟨hs a ha, by simpa using ha⟩) ?_).symm
    refine nd_len (h.nodup.sublist List.filter_sublist) fun a ha => ?_
    simpa using (List.mem_filter.mp ha).2
  have hl : (leftF ord ws).length = ws.length := by
    unfold leftF
    rw [List.length_map, hp.length_eq]
  refine ⟨⟨?_⟩, hl⟩
  rw [hl]
  unfold leftF
  refine (hp.map _).trans ?_
  refine perm_of_sub ?_ (fun a ha => ?_) (by simp [upto])
  · rw [List.Nodup, List.pairwise_map]
    have nd' : ws.Pairwise fun a b => a ∈ ws ∧ b ∈ ws ∧ a ≠ b := by
      have := List.Pairwise.and_mem.mp nd
      exact this.imp fun ⟨x, y, z⟩ => ⟨x, y, z⟩
    refine nd'.imp fun ⟨ha, hb, hne⟩ e => ?_
    rcases Int.lt_or_gt_of_ne hne with z | z
    · have := rank_mono ha z
      omega
    · have := rank_mono hb z
      omega
  · obtain ⟨w, hw, rfl⟩ := List.mem_map.mp ha
    exact mem_upto.mpr ⟨by omega, by have := rank_lt hw; omega⟩
theorem intV_inj : ∀ {a b : List Int}, a.map V.int = b.map V.int → a = b
  | [], [], _ => rfl
  | [], _ :: _, h => nomatch h
  | _ :: _, [], h => nomatch h
  | x :: a, y :: b, h => by
    rw [List.map_cons, List.map_cons] at h
    injection h with h1 h2
    rw [V.int.inj h1, intV_inj h2]
theorem cutN_mid (xs : List V) {a b : Nat} (h1 : a ≤ b) (h2 : b ≤ xs.length) : cutV xs (some (a : Int)) (some (b : Int)) = (xs.drop a).take (b - a) := by
  unfold cutV
  rw [HT.sIx_nat, HT.sIx_nat, Nat.min_eq_left h2, Nat.min_eq_left (show a ≤ xs.length by omega)]
theorem nestF_bad : ∀ (d : Nat) (ord : List Int), nestF d ord ≠ some .bad
  | 0, _ => fun h => nomatch h
  | d + 1, ord => by
    rw [nestF]
    split
    · exact fun h => nomatch h
    · split
      · exact fun h => nomatch h
      · intro h
        cases hx : allO ((stretchF ord (cutF ord).2).map fun b => nestF d (leftF ord b)) with
        | none => rw [hx] at h; cases h
        | some ns =>
          rw [hx] at h
          have h : some (if (cutF ord).1 = kS false then Nest.knot false ns.reverse else Nest.knot true ns) = some .bad := h
          split at h <;> cases h
theorem cut_kind {ord : List Int} (h : (cutF ord).2 ≠ []) : (cutF ord).1 = kS false ∨ (cutF ord).1 = kS true := by
  unfold cutF at h ⊢
  split
  · rename_i c
    rw [if_pos c] at h
    split
    · rename_i c2
      rw [if_pos c2] at h
      exact absurd rfl h
    · exact .inl rfl
  · exact .inr rfl
theorem nests_rev {K : PySem.W.Frag} {H : Hp} : ∀ {ns : List Nest} {vs : List V}, NestsAt K H ns vs → NestsAt K H ns.reverse vs.reverse
  | [], _, h => by have h : _ = [] := h; rw [h]; rfl
  | n :: r, _, ⟨v, vr, e, h1, h2⟩ => by
    rw [e, List.reverse_cons, List.reverse_cons]
    exact NestsAt.app (nests_rev h2) (NestsAt.one h1)
def barS : Str := "barred"
def TellsN (K : PySem.W.Frag) (H : Hp) (o : Option Nest) (v : V) : Prop := match o with
  | some n => NestAt K H n v
  | none => v = .str barS
def spStretch (K : PySem.W.Frag) : Sp := fun vs H Q _ => ∃ (o p : Addr) (ord : List Int) (ps : List Nat), vs = [.ref o, .ref p] ∧ SqT K H o (ord.map V.int) ∧ H p = some (.tup (natV ps)) ∧ Asc ord.length ps ∧ ps ≠ [] ∧ 1 ≤ ord.length ∧ ord.length ≤ 900 ∧
  ∀ (q : Addr) (qs : List Addr) (H' : Hp), H q = none → (∀ x ∈ qs, H x = none) → H' q = some (.lst (qs.map V.ref)) → LstsAt H' qs (stretchF ord ps) → Same H H' → Q (.ref q) H'
def spNestOf (K : PySem.W.Frag) (d : Nat) : Sp := fun vs H Q _ => ∃ (o : Addr) (ord : List Int), vs = [.ref o] ∧ SqT K H o (ord.map V.int) ∧ IsOrd ord ∧ 1 ≤ ord.length ∧ ord.length ≤ 60 ∧ ord.length ≤ d ∧ ∀ (v : V) (H' : Hp), TellsN K H' (nestF d ord) v → Same H H' → Q v H'
end Tn
namespace Tn
open PySem L2
mutual
def fit : Nest → Bool
  | .word => true
  | .knot _ ps => decide (2 ≤ ps.length) && fitL ps
  | .bad => false
def fitL : List Nest → Bool
  | [] => true
  | n :: r => fit n && fitL r
end
mutual
theorem NestAt.fit {K : PySem.W.Frag} {H : Hp} : ∀ {n : Nest} {o : Option Bool} {v : V}, NestAt K H n v → valid o n = true → Tn.fit n = true
  | .word, _, _, _, _ => rfl
  | .knot k ps, _, _, ⟨a, b, vs, _, _, _, h2, _, h5⟩, hv => by
    have hvl : validL k ps = true := by simp only [valid, Bool.and_eq_true] at hv; exact hv.2
    have hl := h5.len
    rw [Tn.fit, NestsAt.fit h5 hvl, decide_eq_true (by omega)]
    rfl
  | .bad, _, _, _, hv => by simp [valid] at hv
theorem NestsAt.fit {K : PySem.W.Frag} {H : Hp} : ∀ {ps : List Nest} {k : Bool} {vs : List V}, NestsAt K H ps vs → validL k ps = true → fitL ps = true
  | [], _, _, _, _ => rfl
  | n :: r, k, _, ⟨v, vr, _, h1, h2⟩, hv => by
    simp only [validL, Bool.and_eq_true] at hv
    rw [fitL, NestAt.fit h1 hv.1, NestsAt.fit h2 hv.2]
    rfl
end
mutual
theorem row_shift : ∀ (n : Nest) (f g : Int), rowN n (f + g) = (rowN n f).map fun w => w + g
  | .word, f, g => by rw [rowN, rowN]; rfl
  | .knot k ps, f, g => by
    rw [rowN, rowN, rows_shift ps f g]
    cases k
    · show (List.map _ _).reverse.flatten = List.map _ ((rowsN ps f).reverse).flatten
      rw [← List.map_reverse, List.map_flatten]
    · show (List.map _ _).flatten = List.map _ (rowsN ps f).flatten
      rw [List.map_flatten]
  | .bad, f, g => by rw [rowN, rowN]; rfl
theorem rows_shift : ∀ (ps : List Nest) (f g : Int), rowsN ps (f + g) = (rowsN ps f).map fun l => l.map fun w => w + g
  | [], f, g => by rw [rowsN, rowsN]; rfl
  | n :: r, f, g => by
    rw [rowsN, rowsN, row_shift n f g, List.map_cons, List.length_map, show f + g + ((rowN n f).length : Int) = f + ((rowN n f).length : Int) + g by omega, rows_shift r _ g]
end
theorem row_mem {n : Nest} {o : Option Bool} {f w : Int} (hv : valid o n = true) (h : w ∈ rowN n f) : f ≤ w ∧ w < f + (words n : Int) := by
  have := (row_perm n o f hv).mem_iff.mp h
  unfold fromTo at this
  obtain ⟨z, hz, rfl⟩ := List.mem_map.mp this
  have := mem_upto.mp hz
  omega
theorem fitL_mem : ∀ {ps : List Nest} {n : Nest}, fitL ps = true → n ∈ ps → fit n = true
  | _ :: r, n, h, hm => by
    rw [fitL, Bool.and_eq_true] at h
    rcases List.mem_cons.mp hm with rfl | hm
    · exact h.1
    · exact fitL_mem h.2 hm
theorem validL_mem : ∀ {ps : List Nest} {k : Bool} {n : Nest}, validL k ps = true → n ∈ ps → valid (some k) n = true
  | _ :: r, k, n, h, hm => by
    simp only [validL, Bool.and_eq_true] at h
    rcases List.mem_cons.mp hm with rfl | hm
    · exact h.1
    · exact validL_mem h.2 hm
theorem words_fit : ∀ {n : Nest}, fit n = true → 1 ≤ words n
  | .word, _ => Nat.le_refl _
  | .knot _ ps, h => by
    rw [fit, Bool.and_eq_true, decide_eq_true_eq] at h
    match ps, h with
    | n :: r, h =>
      have h2 := h.2
      rw [fitL, Bool.and_eq_true] at h2
      have := words_fit h2.1
      rw [words, wordsL]
      omega
  | .bad, h => by simp [fit] at h
theorem wordsL_fit : ∀ {ps : List Nest}, fitL ps = true → ps.length ≤ wordsL ps
  | [], _ => Nat.zero_le _
  | n :: r, h => by
    rw [fitL, Bool.and_eq_true] at h
    have := words_fit h.1
    have := wordsL_fit h.2
    rw [wordsL, List.length_cons]
    omega
theorem wordsL_part : ∀ {ps : List Nest} {n : Nest}, fitL ps = true → 2 ≤ ps.length → n ∈ ps → words n + 1 ≤ wordsL ps
  | m :: r, n, h, h2, hm => by
    rw [fitL, Bool.and_eq_true] at h
    have h3 := words_fit h.1
    have h4 := wordsL_fit h.2
    rw [List.length_cons] at h2
    rw [wordsL]
    rcases List.mem_cons.mp hm with rfl | hm
    · omega
    · obtain ⟨i, hi⟩ := List.getElem?_of_mem hm
      have := wordsL_at hi
      omega
def Rk (k : Bool) (a b : Int) : Prop := if k then a < b else b < a
theorem Rk_not {k : Bool} {a b : Int} (h : Rk k a b) : ¬ Rk (!k) a b := by
  unfold Rk at *
  cases k
  · simp at *; omega
  · simp at *; omega
def Apart (k : Bool) (x y : List Int) : Prop := ∀ a ∈ x, ∀ b ∈ y, Rk k a b
def seenB (k : Bool) (rs : List (List Int)) : List (List Int) := if k then rs else rs.reverse
theorem row_seen (k : Bool) (ps : List Nest) (f : Int) : rowN (.knot k ps) f = (seenB k (rowsN ps f)).flatten := by
  rw [rowN]; rfl
theorem rows_apart : ∀ (ps : List Nest) (k : Bool) (f : Int), validL k ps = true → (rowsN ps f).Pairwise (Apart true) ∧ ∀ x ∈ rowsN ps f, ∀ a ∈ x, f ≤ a
  | [], _, _, _ => by rw [rowsN]; exact ⟨.nil, fun _ h => nomatch h⟩
  | n :: r, k, f, h => by
    simp only [validL, Bool.and_eq_true] at h
    have hl := row_len f h.1
    have ih := rows_apart r k (f + ((rowN n f).length : Int)) h.2
    rw [rowsN]
    refine ⟨List.pairwise_cons.mpr ⟨fun y hy a ha b hb => ?_, ih.1⟩, fun x hx a ha => ?_⟩
    · have h1 := row_mem h.1 ha
      have h2 := ih.2 y hy b hb
      show Rk true a b
      unfold Rk
      simp
      omega
    · rcases List.mem_cons.mp hx with rfl | hx
      · exact (row_mem h.1 ha).1
      · have := ih.2 x hx a ha
        omega
theorem rows_part : ∀ {ps : List Nest} {f : Int} {x : List Int}, x ∈ rowsN ps f → ∃ n ∈ ps, ∃ g, x = rowN n g
  | [], _, _, h => by rw [rowsN] at h; cases h
  | n :: r, f, x, h => by
    rw [rowsN] at h
    rcases List.mem_cons.mp h with rfl | h
    · exact ⟨n, List.mem_cons_self, f, rfl⟩
    · obtain ⟨m, hm, g, e⟩ := rows_part h
      exact ⟨m, List.mem_cons_of_mem _ hm, g, e⟩
theorem rows_len : ∀ (ps : List Nest) (f : Int), (rowsN ps f).length = ps.length
  | [], _ => by rw [rowsN]; rfl
  | n :: r, f => by rw [rowsN, List.length_cons, List.length_cons, rows_len r]
structure Blocks (k : Bool) (bs : List (List Int)) : Prop where
  two : 2 ≤ bs.length
  ne : ∀ x ∈ bs, x ≠ []
  ap : bs.Pairwise (Apart k)
theorem blocks_of {k : Bool} {ps : List Nest} (f : Int) (hv : validL k ps = true) (hf : fitL ps = true) (h2 : 2 ≤ ps.length) : Blocks k (seenB k (rowsN ps f)) := by
  have h1 := rows_apart ps k f hv
  have hne : ∀ x ∈ rowsN ps f, x ≠ [] := fun x hx z => by
    obtain ⟨n, hn, g, e⟩ := rows_part hx
    have := row_len g (validL_mem hv hn)
    rw [← e, z] at this
    have := words_fit (fitL_mem hf hn)
    simp at *
    omega
  unfold seenB
  cases k
  · refine ⟨by simp [rows_len]; exact h2, fun x hx => hne x (by simpa using hx), ?_⟩
    show ((rowsN ps f).reverse).Pairwise _
    rw [List.pairwise_reverse]
    refine h1.1.imp fun {x y} h a ha b hb => ?_
    have := h b hb a ha
    unfold Rk at *
    simpa using this
  · exact ⟨by simp [rows_len]; exact h2, hne, h1.1⟩
theorem Blocks.no_other {k : Bool} {bs : List (List Int)} (h : Blocks k bs) {b1 b2 : List Int} (e : bs.flatten = b1 ++ b2) (h1 : b1 ≠ []) (h2 : b2 ≠ []) : ¬ Apart (!k) b1 b2 := by
  intro ha
  obtain ⟨x0, r0, e0⟩ : ∃ x r, bs = x :: r := by
    cases bs with
    | nil => exact absurd h.two (by simp)
    | cons x r => exact ⟨x, r, rfl⟩
  obtain ⟨i1, y1, e1⟩ : ∃ i y, bs = i ++ [y] := by
    have : bs ≠ [] := by rw [e0]; simp
    exact ⟨bs.dropLast, bs.getLast this, (List.dropLast_concat_getLast this).symm⟩
  have hx0 : x0 ≠ [] := h.ne x0 (by rw [e0]; simp)
  have hy1 : y1 ≠ [] := h.ne y1 (by rw [e1]; simp)
  have hap : Apart k x0 y1 := by
    rw [e0] at h
    have hr : y1 ∈ r0 := by
      have hl : (x0 :: r0).getLast? = some y1 := by rw [← e0, e1]; simp
      have h2 := h.two
      cases r0 with
      | nil => simp at h2
      | cons z r =>
        rw [List.getLast?_cons_cons] at hl
        exact List.mem_of_getLast? hl
    exact (List.pairwise_cons.mp h.ap).1 y1 hr
  obtain ⟨a, ta, ea⟩ : ∃ a t, x0 = a :: t := by
    cases x0 with
    | nil => exact absurd rfl hx0
    | cons a t => exact ⟨a, t, rfl⟩
  have hc : y1.getLast hy1 ∈ y1 := List.getLast_mem hy1
  have ha1 : a ∈ b1 := by
    cases b1 with
    | nil => exact absurd rfl h1
    | cons b r =>
      rw [e0, ea] at e
      simp at e
      rw [e.1]
      exact List.mem_cons_self
  have hc2 : y1.getLast hy1 ∈ b2 := by
    have h3 : bs.flatten.getLast? = some (y1.getLast hy1) := by
      rw [e1, List.flatten_append, List.flatten_cons, List.flatten_nil, List.append_nil, List.getLast?_append, List.getLast?_eq_some_getLast hy1]
      rfl
    rw [e, List.getLast?_append, List.getLast?_eq_some_getLast h2] at h3
    have h3 : some (b2.getLast h2) = some (y1.getLast hy1) := h3
    rw [← Option.some.inj h3]
    exact List.getLast_mem h2
  exact Rk_not (hap a (by rw [ea]; exact List.mem_cons_self) _ hc) (ha a ha1 _ hc2)
def bordF : Nat → List (List Int) → List Nat
  | _, [] => []
  | _, [_] => []
  | a, b :: c :: r => (a + b.length) :: bordF (a + b.length) (c :: r)
theorem bord_len : ∀ (a : Nat) (bs : List (List Int)), (bordF a bs).length = bs.length - 1
  | _, [] => rfl
  | _, [_] => rfl
  | a, b :: c :: r => by
    rw [bordF, List.length_cons, bord_len _ (c :: r)]
    simp
theorem stretch_bord : ∀ (bs : List (List Int)) (pre : List Int), bs ≠ [] → ((pre.length :: bordF pre.length bs).zip (bordF pre.length bs ++ [(pre ++ bs.flatten).length])).map (fun ab => ((pre ++ bs.flatten).drop ab.1).take (ab.2 - ab.1)) = bs
  | [], _, h => absurd rfl h
  | [b], pre, _ => by
    show [((pre ++ (b ++ [])).drop pre.length).take ((pre ++ (b ++ [])).length - pre.length)] = [b]
    rw [List.append_nil, List.drop_left, List.length_append, List.take_of_length_le (by omega)]
  | b :: c :: r, pre, _ => by
    have ih := stretch_bord (c :: r) (pre ++ b) (by simp)
    rw [bordF, List.cons_append, List.zip_cons_cons, List.map_cons]
    have e : pre ++ (b :: c :: r).flatten = (pre ++ b) ++ (c :: r).flatten := by rw [List.flatten_cons, List.append_assoc]
    rw [e]
    rw [List.length_append (as := pre) (bs := b)] at ih
    rw [ih]
    congr 1
    show (((pre ++ b) ++ (c :: r).flatten).drop pre.length).take (pre.length + b.length - pre.length) = b
    rw [List.append_assoc, List.drop_left, Nat.add_sub_cancel_left, List.take_left]
theorem stretch_of {bs : List (List Int)} (h : bs ≠ []) : stretchF bs.flatten (bordF 0 bs) = bs := by
  have := stretch_bord bs [] h
  exact this
theorem bord_mem : ∀ (bs : List (List Int)) (a p : Nat), p ∈ bordF a bs ↔ ∃ X Y, bs = X ++ Y ∧ X ≠ [] ∧ Y ≠ [] ∧ p = a + X.flatten.length
  | [], a, p => by
    refine ⟨(fun h => nomatch h), fun ⟨X, Y, e, h1, _⟩ => ?_⟩
    have := List.append_eq_nil_iff.mp e.symm
    exact absurd this.1 h1
  | [b], a, p => by
    refine ⟨(fun h => nomatch h), fun ⟨X, Y, e, h1, h2, _⟩ => ?_⟩
    have := congrArg List.length e
    have l1 := List.length_pos_iff.mpr h1
    have l2 := List.length_pos_iff.mpr h2
    simp at this
    omega
  | b :: c :: r, a, p => by
    rw [bordF, List.mem_cons, bord_mem (c :: r) (a + b.length) p]
    constructor
    · rintro (rfl | ⟨X, Y, e, h1, h2, rfl⟩)
      · exact ⟨[b], c :: r, rfl, by simp, by simp, by simp⟩
      · exact ⟨b :: X, Y, by rw [e]; rfl, by simp, h2, by simp; omega⟩
    · rintro ⟨X, Y, e, h1, h2, rfl⟩
      cases X with
      | nil => exact absurd rfl h1
      | cons x X =>
        rw [List.cons_append] at e
        injection e with e1 e2
        subst e1
        cases X with
        | nil => exact .inl (by simp)
        | cons y X => exact .inr ⟨y :: X, Y, e2, by simp, h2, by simp; omega⟩
theorem bord_asc : ∀ (bs : List (List Int)) (a : Nat), (∀ x ∈ bs, x ≠ []) → (bordF a bs).Pairwise (· < ·) ∧ ∀ p ∈ bordF a bs, a < p
  | [], _, _ => ⟨.nil, fun _ h => nomatch h⟩
  | [_], _, _ => ⟨.nil, fun _ h => nomatch h⟩
  | b :: c :: r, a, h => by
    have ih := bord_asc (c :: r) (a + b.length) fun x hx => h x (List.mem_cons_of_mem _ hx)
    have hb := List.length_pos_iff.mpr (h b List.mem_cons_self)
    rw [bordF]
    refine ⟨List.pairwise_cons.mpr ⟨ih.2, ih.1⟩, fun p hp => ?_⟩
    rcases List.mem_cons.mp hp with rfl | hp
    · omega
    · have := ih.2 p hp
      omega
theorem pos_cases : ∀ (bs : List (List Int)) (p : Nat), 0 < p → p < bs.flatten.length → (∃ X Y, bs = X ++ Y ∧ X ≠ [] ∧ Y ≠ [] ∧ p = X.flatten.length) ∨ ∃ X b1 b2 Y, bs = X ++ (b1 ++ b2) :: Y ∧ b1 ≠ [] ∧ b2 ≠ [] ∧ p = X.flatten.length + b1.length
  | [], p, h1, h2 => by simp at h2
  | b :: r, p, h1, h2 => by
    rw [List.flatten_cons, List.length_append] at h2
    by_cases hp : p < b.length
    · refine .inr ⟨[], b.take p, b.drop p, r, by simp, fun z => ?_, fun z => ?_, by simp; omega⟩
      · have := congrArg List.length z
        rw [List.length_take, List.length_nil] at this
        omega
      · have := congrArg List.length z
        rw [List.length_drop, List.length_nil] at this
        omega
    · by_cases he : p = b.length
      · refine .inl ⟨[b], r, rfl, by simp, fun z => ?_, by simp [he]⟩
        rw [z] at h2
        simp at h2
        omega
      · rcases pos_cases r (p - b.length) (by omega) (by omega) with ⟨X, Y, rfl, h3, h4, h5⟩ | ⟨X, b1, b2, Y, rfl, h3, h4, h5⟩
        · exact .inl ⟨b :: X, Y, rfl, by simp, h4, by rw [List.flatten_cons, List.length_append]; omega⟩
        · exact .inr ⟨b :: X, b1, b2, Y, rfl, h3, h4, by rw [List.flatten_cons, List.length_append]; omega⟩
theorem asc_ext : ∀ {l m : List Nat}, l.Pairwise (· < ·) → m.Pairwise (· < ·) → (∀ x, x ∈ l ↔ x ∈ m) → l = m
  | [], [], _, _, _ => rfl
  | [], y :: m, _, _, h => absurd ((h y).mpr List.mem_cons_self) (by simp)
  | x :: l, [], _, _, h => absurd ((h x).mp List.mem_cons_self) (by simp)
  | x :: l, y :: m, hl, hm, h => by
    obtain ⟨l1, l2⟩ := List.pairwise_cons.mp hl
    obtain ⟨m1, m2⟩ := List.pairwise_cons.mp hm
    have e : x = y := by
      rcases List.mem_cons.mp ((h x).mp List.mem_cons_self) with z | z
      · exact z
      · rcases List.mem_cons.mp ((h y).mpr List.mem_cons_self) with w | w
        · exact w.symm
        · have := m1 x z
          have := l1 y w
          omega
    subst e
    rw [asc_ext l2 m2 fun z => ?_]
    constructor
    · intro hz
      rcases List.mem_cons.mp ((h z).mp (List.mem_cons_of_mem _ hz)) with w | w
      · have := l1 z hz
        omega
      · exact w
    · intro hz
      rcases List.mem_cons.mp ((h z).mpr (List.mem_cons_of_mem _ hz)) with w | w
      · have := m1 z hz
        omega
      · exact w
theorem cut_iff {k : Bool} {bs : List (List Int)} (h : Blocks k bs) (hin : ∀ x ∈ bs, ∀ b1 b2, x = b1 ++ b2 → b1 ≠ [] → b2 ≠ [] → ¬ Apart k b1 b2) {p : Nat} (h1 : 0 < p) (h2 : p < bs.flatten.length) :
    Apart k (bs.flatten.take p) (bs.flatten.drop p) ↔ p ∈ bordF 0 bs := by
  rw [bord_mem]
  constructor
  · intro ha
    rcases pos_cases bs p h1 h2 with ⟨X, Y, e, h3, h4, h5⟩ | ⟨X, b1, b2, Y, e, h3, h4, h5⟩
    · exact ⟨X, Y, e, h3, h4, by omega⟩
    · refine absurd (fun a ha1 c hc1 => ?_) (hin (b1 ++ b2) (by rw [e]; simp) b1 b2 rfl h3 h4)
      have ef : bs.flatten = (X.flatten ++ b1) ++ (b2 ++ Y.flatten) := by rw [e, List.flatten_append, List.flatten_cons]; simp
      have ep : p = (X.flatten ++ b1).length := by rw [List.length_append]; exact h5
      refine ha a ?_ c ?_
      · rw [ef, ep, List.take_left]
        exact List.mem_append_right _ ha1
      · rw [ef, ep, List.drop_left]
        exact List.mem_append_left _ hc1
  · rintro ⟨X, Y, e, h3, h4, h5⟩ a ha c hc
    have ef : bs.flatten = X.flatten ++ Y.flatten := by rw [e, List.flatten_append]
    have ep : p = X.flatten.length := by omega
    rw [ef, ep, List.take_left] at ha
    rw [ef, ep, List.drop_left] at hc
    obtain ⟨x, hx, hax⟩ := List.mem_flatten.mp ha
    obtain ⟨y, hy, hcy⟩ := List.mem_flatten.mp hc
    have hp := h.ap
    rw [e, List.pairwise_append] at hp
    exact hp.2.2 x hx y hy a hax c hcy
theorem rise_apart {ord : List Int} (h : IsOrd ord) {p : Nat} (hp : p ≤ ord.length) : upB ord p = true ↔ Apart true (ord.take p) (ord.drop p) := by
  rw [up_iff h hp]
  constructor
  · intro z a ha b hb
    have := z a ha b hb
    unfold Rk
    simpa using this
  · intro z a ha b hb
    have := z a ha b hb
    unfold Rk at this
    simpa using this
theorem fall_apart {ord : List Int} (h : IsOrd ord) {p : Nat} (hp : p ≤ ord.length) : dnB ord p = true ↔ Apart false (ord.take p) (ord.drop p) := by
  rw [dn_iff h hp]
  constructor
  · intro z a ha b hb
    have := z a ha b hb
    unfold Rk
    simpa using this
  · intro z a ha b hb
    have := z a ha b hb
    unfold Rk at this
    simpa using this
def cutB (k : Bool) (ord : List Int) : Nat → Bool := if k then upB ord else dnB ord
theorem cutB_apart {k : Bool} {ord : List Int} (h : IsOrd ord) {p : Nat} (hp : p ≤ ord.length) : cutB k ord p = true ↔ Apart k (ord.take p) (ord.drop p) := by
  cases k
  · exact fall_apart h hp
  · exact rise_apart h hp
theorem places_bord {k : Bool} {bs : List (List Int)} (hO : IsOrd bs.flatten) (h : Blocks k bs) (hin : ∀ x ∈ bs, ∀ b1 b2, x = b1 ++ b2 → b1 ≠ [] → b2 ≠ [] → ¬ Apart k b1 b2) :
    places bs.flatten (cutB k bs.flatten) (bs.flatten.length - 1) = bordF 0 bs := by
  have hp := places_asc bs.flatten (cutB k bs.flatten) (bs.flatten.length - 1)
  have hb := bord_asc bs 0 h.ne
  refine asc_ext hp.1 hb.1 fun p => ⟨fun hm => ?_, fun hm => ?_⟩
  · obtain ⟨h1, h2, h3⟩ := hp.2 p hm
    exact (cut_iff h hin (by omega) (by omega)).mp ((cutB_apart hO (by omega)).mp h3)
  · obtain ⟨X, Y, e, h3, h4, h5⟩ := (bord_mem bs 0 p).mp hm
    have h6 := hb.2 p hm
    have hy : 0 < Y.flatten.length := by
      cases Y with
      | nil => exact absurd rfl h4
      | cons y r =>
        have := List.length_pos_iff.mpr (h.ne y (by rw [e]; simp))
        rw [List.flatten_cons, List.length_append]
        omega
    have hl : bs.flatten.length = X.flatten.length + Y.flatten.length := by rw [e, List.flatten_append, List.length_append]
    unfold places
    refine List.mem_filter.mpr ⟨List.mem_map.mpr ⟨p - 1, List.mem_range.mpr (by omega), by omega⟩, ?_⟩
    exact (cutB_apart hO (by omega)).mpr ((cut_iff h hin (by omega) (by omega)).mpr hm)
theorem places_none {k : Bool} {bs : List (List Int)} (hO : IsOrd bs.flatten) (h : Blocks k bs) : places bs.flatten (cutB (!k) bs.flatten) (bs.flatten.length - 1) = [] := by
  have hp := places_asc bs.flatten (cutB (!k) bs.flatten) (bs.flatten.length - 1)
  cases hx : places bs.flatten (cutB (!k) bs.flatten) (bs.flatten.length - 1) with
  | nil => rfl
  | cons p r =>
    obtain ⟨h1, h2, h3⟩ := hp.2 p (by rw [hx]; exact List.mem_cons_self)
    have ha := (cutB_apart hO (by omega)).mp h3
    refine absurd ha (h.no_other (List.take_append_drop p _).symm (fun z => ?_) fun z => ?_)
    · have := congrArg List.length z
      simp only [List.length_take, List.length_nil] at this
      omega
    · have := congrArg List.length z
      simp only [List.length_drop, List.length_nil] at this
      omega
theorem cutF_blocks {k : Bool} {bs : List (List Int)} (hO : IsOrd bs.flatten) (h : Blocks k bs) (hin : ∀ x ∈ bs, ∀ b1 b2, x = b1 ++ b2 → b1 ≠ [] → b2 ≠ [] → ¬ Apart k b1 b2) : cutF bs.flatten = (kS k, bordF 0 bs) := by
  have h1 := places_bord hO h hin
  have h2 := places_none hO h
  have hne : bordF 0 bs ≠ [] := fun z => by
    have := congrArg List.length z
    rw [bord_len] at this
    have := h.two
    simp at *
    omega
  unfold cutF risF falF
  cases k
  · have h1 : places bs.flatten (dnB bs.flatten) (bs.flatten.length - 1) = bordF 0 bs := h1
    have h2 : places bs.flatten (upB bs.flatten) (bs.flatten.length - 1) = [] := h2
    rw [if_pos h2, h1, if_neg hne]
    rfl
  · have h1 : places bs.flatten (upB bs.flatten) (bs.flatten.length - 1) = bordF 0 bs := h1
    rw [h1, if_neg hne]
    rfl
theorem fromTo_strict (f : Int) (n : Nat) : (fromTo f n).Pairwise (· < ·) := by
  unfold fromTo
  rw [List.pairwise_map]
  exact (upto_strict n).imp fun h => by omega
theorem fromTo_get (f : Int) {n i : Nat} (h : i < n) : (fromTo f n)[i]? = some (f + (i : Int)) := by
  unfold fromTo
  rw [List.getElem?_map, upto_get h]
  rfl
theorem filter_block {ord X B Y : List Int} (h : ord.Nodup) (e : ord = X ++ B ++ Y) : ord.filter (fun w => decide (w ∈ B)) = B := by
  subst e
  have h1 := List.nodup_append.mp h
  have h2 := List.nodup_append.mp h1.1
  rw [List.filter_append, List.filter_append]
  have hX : X.filter (fun w => decide (w ∈ B)) = [] := by
    rw [List.filter_eq_nil_iff]
    intro w hw z
    exact h2.2.2 w hw w (by simpa using z) rfl
  have hY : Y.filter (fun w => decide (w ∈ B)) = [] := by
    rw [List.filter_eq_nil_iff]
    intro w hw z
    exact h1.2.2 w (List.mem_append_right _ (by simpa using z)) w hw rfl
  have hB : B.filter (fun w => decide (w ∈ B)) = B := by
    rw [List.filter_eq_self]
    intro w hw
    simpa using hw
  rw [hX, hY, hB]
  simp
theorem left_row {ord X Y : List Int} {n : Nest} {o : Option Bool} {g : Int} (h : ord.Nodup) (hv : valid o n = true) (e : ord = X ++ rowN n g ++ Y) : leftF ord (rowN n g) = rowN n 0 := by
  unfold leftF
  rw [filter_block h e]
  have hp := row_perm n o g hv
  have hs : rowN n 0 = (rowN n g).map fun w => w + -g := by
    rw [← row_shift, show g + -g = 0 by omega]
  rw [hs]
  apply List.map_congr_left
  intro w hw
  have hm := row_mem hv hw
  rw [rank_perm hp]
  have := strict_rank (fromTo_strict g (words n)) (fromTo_get g (i := (w - g).toNat) (by omega))
  rw [show g + (((w - g).toNat : Nat) : Int) = w by omega] at this
  rw [this]
  omega
theorem rows_map (F : List Int → Option Nest) : ∀ (ps : List Nest) (f : Int), (∀ n g, n ∈ ps → rowN n g ∈ rowsN ps f → F (rowN n g) = some n) → (rowsN ps f).map F = ps.map some
  | [], f, _ => by rw [rowsN]; rfl
  | n :: r, f, h => by
    rw [rowsN] at h ⊢
    rw [List.map_cons, List.map_cons, h n f List.mem_cons_self List.mem_cons_self, rows_map F r _ fun m g hm hg => h m g (List.mem_cons_of_mem _ hm) (List.mem_cons_of_mem _ hg)]
theorem mem_seen {k : Bool} {rs : List (List Int)} {x : List Int} : x ∈ seenB k rs ↔ x ∈ rs := by
  unfold seenB
  cases k
  · show x ∈ rs.reverse ↔ _
    exact List.mem_reverse
  · exact Iff.rfl
theorem inner_none {k : Bool} {ps : List Nest} {f : Int} (hv : validL k ps = true) (hf : fitL ps = true) : ∀ x ∈ seenB k (rowsN ps f), ∀ b1 b2, x = b1 ++ b2 → b1 ≠ [] → b2 ≠ [] → ¬ Apart k b1 b2 := by
  intro x hx b1 b2 e h1 h2
  obtain ⟨n, hn, g, rfl⟩ := rows_part (mem_seen.mp hx)
  have hvn := validL_mem hv hn
  have hfn := fitL_mem hf hn
  cases n with
  | bad => simp [valid] at hvn
  | word =>
    rw [rowN] at e
    have := congrArg List.length e
    have l1 := List.length_pos_iff.mpr h1
    have l2 := List.length_pos_iff.mpr h2
    simp at this
    omega
  | knot k' qs =>
    simp only [valid, Bool.and_eq_true] at hvn
    rw [fit, Bool.and_eq_true, decide_eq_true_eq] at hfn
    have hk : k = !k' := by
      have := hvn.1
      cases k <;> cases k' <;> simp at this ⊢
    rw [hk]
    rw [row_seen] at e
    exact (blocks_of g hvn.2 hfn.2 hfn.1).no_other e h1 h2
theorem cutF_row {k : Bool} {ps : List Nest} {o : Option Bool} (hv : valid o (.knot k ps) = true) (hf : fit (.knot k ps) = true) : cutF (rowN (.knot k ps) 0) = (kS k, bordF 0 (seenB k (rowsN ps 0))) := by
  have hO := (row_ord hv).1
  have hvl : validL k ps = true := by simp only [valid, Bool.and_eq_true] at hv; exact hv.2
  rw [fit, Bool.and_eq_true, decide_eq_true_eq] at hf
  rw [row_seen] at hO ⊢
  exact cutF_blocks hO (blocks_of 0 hvl hf.2 hf.1) (inner_none hvl hf.2)
theorem nest_row : ∀ (d : Nat) (n : Nest) (o : Option Bool), valid o n = true → fit n = true → words n ≤ d → nestF d (rowN n 0) = some n
  | 0, n, o, _, hf, hd => by
    have := words_fit hf
    omega
  | d + 1, .word, o, _, _, _ => by
    rw [rowN, nestF, if_pos (show [(0 : Int)].length = 1 from rfl)]
  | d + 1, .bad, o, hv, _, _ => by simp [valid] at hv
  | d + 1, .knot k ps, o, hv, hf, hd => by
    have hO := row_ord hv
    have hc := cutF_row hv hf
    have hvl : validL k ps = true := by simp only [valid, Bool.and_eq_true] at hv; exact hv.2
    have hf' := hf
    rw [fit, Bool.and_eq_true, decide_eq_true_eq] at hf'
    have hw := wordsL_fit hf'.2
    have hwk : words (.knot k ps) = wordsL ps := by rw [words]
    have hB := blocks_of 0 hvl hf'.2 hf'.1
    have hne : bordF 0 (seenB k (rowsN ps 0)) ≠ [] := fun z => by
      have := congrArg List.length z
      rw [bord_len] at this
      have := hB.two
      simp at *
      omega
    rw [nestF, if_neg (by rw [hO.2]; omega), hc, if_neg hne]
    have hst : stretchF (rowN (.knot k ps) 0) (bordF 0 (seenB k (rowsN ps 0))) = seenB k (rowsN ps 0) := by
      rw [row_seen]
      refine stretch_of fun z => ?_
      have := hB.two
      rw [z] at this
      simp at this
    rw [hst]
    have hmap : (rowsN ps 0).map (fun b => nestF d (leftF (rowN (.knot k ps) 0) b)) = ps.map some := by
      refine rows_map _ ps 0 fun n g hn hg => ?_
      have hvn := validL_mem hvl hn
      obtain ⟨X, Y, hXY⟩ := List.append_of_mem (mem_seen (k := k).mpr hg)
      have e : rowN (.knot k ps) 0 = X.flatten ++ rowN n g ++ Y.flatten := by
        rw [row_seen, hXY, List.flatten_append, List.flatten_cons]
        simp
      rw [left_row hO.1.nodup hvn e]
      have := wordsL_part hf'.2 hf'.1 hn
      exact nest_row d n (some k) hvn (fitL_mem hf'.2 hn) (by omega)
    cases k
    · show (allO ((rowsN ps 0).reverse.map _)).map _ = _
      rw [List.map_reverse, hmap, ← List.map_reverse, allO_some]
      show some (if kS false = kS false then Nest.knot false ps.reverse.reverse else _) = _
      rw [if_pos rfl, List.reverse_reverse]
    · show (allO ((rowsN ps 0).map _)).map _ = _
      rw [hmap, allO_some]
      show some (if kS true = kS false then _ else Nest.knot true ps) = _
      rw [if_neg (by decide +kernel)]
end Tn
namespace Tn
open PySem L2
def PairsAt (K : PySem.W.Frag) (H : Hp) (qs : List Addr) (ns : List Nest) : Prop := Paired (fun q n => ∃ x y, H q = some (.tup [x, y]) ∧ NestAt K H n x ∧ NestAt K H n y) qs ns
theorem PairsAt.mono {K : PySem.W.Frag} {H H' : Hp} (s : Same H H') : ∀ {qs : List Addr} {ns : List Nest}, PairsAt K H qs ns → PairsAt K H' qs ns
  | _, _, .nil => .nil
  | _, _, .cons ⟨x, y, e, h1, h2⟩ t => .cons ⟨x, y, s _ _ e, h1.mono s, h2.mono s⟩ (PairsAt.mono s t)
theorem PairsAt.updL {K : PySem.W.Frag} {H : Hp} {l : Addr} {us vs : List V} (e : H l = some (.lst us)) : ∀ {qs : List Addr} {ns : List Nest}, PairsAt K H qs ns → PairsAt K (upd H l (.lst vs)) qs ns
  | _, _, .nil => .nil
  | _, _, .cons ⟨x, y, e1, h1, h2⟩ t => .cons ⟨x, y, by rw [upd_ne (ne_of e1 e (by intro z; cases z))]; exact e1, NestAt.updL e h1, NestAt.updL e h2⟩ (PairsAt.updL e t)
theorem PairsAt.len {K : PySem.W.Frag} {H : Hp} : ∀ {qs : List Addr} {ns : List Nest}, PairsAt K H qs ns → qs.length = ns.length
  | _, _, .nil => rfl
  | _, _, .cons _ t => congrArg (· + 1) (PairsAt.len t)
theorem PairsAt.app {K : PySem.W.Frag} {H : Hp} : ∀ {qs rs : List Addr} {ns ms : List Nest}, PairsAt K H qs ns → PairsAt K H rs ms → PairsAt K H (qs ++ rs) (ns ++ ms)
  | _, _, _, _, .nil, h => h
  | _, _, _, _, .cons a t, h => .cons a (PairsAt.app t h)
def sizeS (ns : List Nest) : Nat := (ns.map sizeN).sum
def spAlike (K : PySem.W.Frag) : Sp := fun vs H Q _ => ∃ (x y : V) (n : Nest), vs = [x, y] ∧ NestAt K H n x ∧ NestAt K H n y ∧ Tn.fit n = true ∧ sizeN n ≤ 900 ∧ ∀ H', Same H H' → Q (.bl true) H'
mutual
theorem size_words : ∀ {n : Nest}, Tn.fit n = true → sizeN n + 1 ≤ 2 * words n
  | .word, _ => by simp [sizeN, words]
  | .knot k ps, h => by
    rw [Tn.fit, Bool.and_eq_true, decide_eq_true_eq] at h
    have := sizes_words h.2
    rw [sizeN, words]
    omega
  | .bad, h => by simp [Tn.fit] at h
theorem sizes_words : ∀ {ps : List Nest}, fitL ps = true → sizeL ps + ps.length ≤ 2 * wordsL ps
  | [], _ => by simp [sizeL, wordsL]
  | n :: r, h => by
    rw [fitL, Bool.and_eq_true] at h
    have := size_words h.1
    have := sizes_words h.2
    rw [sizeL, wordsL, List.length_cons]
    omega
end
def rSumL (K : PySem.W.Frag) : List V → Hp → VK → Prop := fun vs H Q => ∃ (p : Addr) (ns : List Int), vs = [.ref p] ∧ SqL K H p (ns.map V.int) ∧ Q (.int ns.sum) H
end Tn
namespace Tn
open PySem L2
mutual
def LAt (H : Hp) : Nest → V → Prop
  | .word, v => v = .non
  | .knot _ ps, v => ∃ a vs, v = .ref a ∧ H a = some (.lst vs) ∧ 2 ≤ vs.length ∧ vs.length ≤ 1000 ∧ LsAt H ps vs
  | .bad, _ => False
def LsAt (H : Hp) : List Nest → List V → Prop
  | [], vs => vs = []
  | n :: r, vs => ∃ v vr, vs = v :: vr ∧ LAt H n v ∧ LsAt H r vr
end
mutual
theorem LAt.mono {H H' : Hp} (s : Same H H') : ∀ {n : Nest} {v : V}, LAt H n v → LAt H' n v
  | .word, _, h => h
  | .knot _ _, _, ⟨a, vs, e, h1, h2, h3, h4⟩ => ⟨a, vs, e, s _ _ h1, h2, h3, LsAt.mono s h4⟩
  | .bad, _, h => h.elim
theorem LsAt.mono {H H' : Hp} (s : Same H H') : ∀ {ns : List Nest} {vs : List V}, LsAt H ns vs → LsAt H' ns vs
  | [], _, h => h
  | _ :: _, _, ⟨v, vr, e, h1, h2⟩ => ⟨v, vr, e, LAt.mono s h1, LsAt.mono s h2⟩
end
theorem LsAt.len {H : Hp} : ∀ {ns : List Nest} {vs : List V}, LsAt H ns vs → ns.length = vs.length
  | [], _, h => by have h : _ = [] := h; subst h; rfl
  | _ :: _, _, ⟨v, vr, e, _, h2⟩ => by subst e; simp [LsAt.len h2]
theorem LsAt.app {H : Hp} : ∀ {ns ms : List Nest} {vs us : List V}, LsAt H ns vs → LsAt H ms us → LsAt H (ns ++ ms) (vs ++ us)
  | [], _, _, _, h, h' => by have h : _ = [] := h; subst h; exact h'
  | _ :: _, _, _, _, ⟨v, vr, e, h1, h2⟩, h' => by subst e; exact ⟨v, _, rfl, h1, LsAt.app h2 h'⟩
theorem LsAt.one {H : Hp} {n : Nest} {v : V} (h : LAt H n v) : LsAt H [n] [v] := ⟨v, [], rfl, h, rfl⟩
theorem LsAt.get {H : Hp} : ∀ {ns : List Nest} {vs : List V} {i : Nat} {v : V}, LsAt H ns vs → vs[i]? = some v → ∃ n, ns[i]? = some n ∧ LAt H n v
  | [], _, _, _, h, e => by have h : _ = [] := h; subst h; cases e
  | n :: _, _, 0, _, ⟨v, vr, e0, h1, _⟩, e => by subst e0; cases e; exact ⟨n, rfl, h1⟩
  | _ :: _, _, i + 1, _, ⟨v, vr, e0, _, h2⟩, e => by subst e0; exact LsAt.get (i := i) h2 (by simpa using e)
mutual
theorem lwords_pos {H : Hp} : ∀ {n : Nest} {v : V}, LAt H n v → 1 ≤ words n ∧ depthN n + 1 ≤ words n
  | .word, _, _ => by simp [words, depthN]
  | .knot _ ps, _, ⟨_, vs, _, _, h3, _, h5⟩ => by
    have h6 := lwordsL_pos h5
    have h7 := LsAt.len h5
    simp only [words, depthN]
    omega
  | .bad, _, h => h.elim
theorem lwordsL_pos {H : Hp} : ∀ {ns : List Nest} {vs : List V}, LsAt H ns vs → ns.length ≤ wordsL ns ∧ depthL ns + ns.length ≤ wordsL ns
  | [], _, _ => by simp [wordsL, depthL]
  | _ :: _, _, ⟨_, _, _, h1, h2⟩ => by
    have h3 := lwords_pos h1
    have h4 := lwordsL_pos h2
    simp only [wordsL, depthL, List.length_cons, Nat.max_def]
    split <;> omega
end
mutual
def kindN : Bool → Nest → Nest
  | _, .word => .word
  | k, .knot _ ps => .knot k (kindL (!k) ps)
  | _, .bad => .bad
def kindL : Bool → List Nest → List Nest
  | _, [] => []
  | k, n :: r => kindN k n :: kindL k r
end
mutual
theorem kind_words : ∀ (k : Bool) (n : Nest), words (kindN k n) = words n ∧ depthN (kindN k n) = depthN n
  | _, .word => ⟨rfl, rfl⟩
  | k, .knot _ ps => by have := kind_wordsL (!k) ps; simp only [kindN, words, depthN]; omega
  | _, .bad => ⟨rfl, rfl⟩
theorem kind_wordsL : ∀ (k : Bool) (ps : List Nest), wordsL (kindL k ps) = wordsL ps ∧ depthL (kindL k ps) = depthL ps
  | _, [] => ⟨rfl, rfl⟩
  | k, n :: r => by
    have h1 := kind_words k n
    have h2 := kind_wordsL k r
    simp only [kindL, wordsL, depthL, h1.1, h1.2, h2.1, h2.2, and_self]
end
mutual
theorem kind_valid {H : Hp} : ∀ {n : Nest} {v : V} {k : Bool} {o : Option Bool}, LAt H n v → o ≠ some k → valid o (kindN k n) = true
  | .word, _, _, _, _, _ => by simp [kindN, valid]
  | .knot _ ps, _, k, o, ⟨_, _, _, _, _, _, h⟩, ho => by
    simp only [kindN, valid, Bool.and_eq_true, Bool.not_eq_true', decide_eq_false_iff_not]
    exact ⟨ho, kind_validL (k := k) h⟩
  | .bad, _, _, _, h, _ => h.elim
theorem kind_validL {H : Hp} : ∀ {ps : List Nest} {vs : List V} {k : Bool}, LsAt H ps vs → validL k (kindL (!k) ps) = true
  | [], _, _, _ => by simp [kindL, validL]
  | n :: r, _, k, ⟨_, _, _, h1, h2⟩ => by
    simp only [kindL, validL, Bool.and_eq_true]
    exact ⟨kind_valid h1 (by cases k <;> simp), kind_validL h2⟩
end
def spClosed (K : PySem.W.Frag) : Sp := fun vs H Q _ => ∃ (pl A B : Addr) (As : List Addr) (us xs : List V), vs = [.ref pl] ∧ H pl = some (.lst ((As ++ [B, A]).map V.ref)) ∧ H A = some (.lst xs) ∧ H B = some (.lst us) ∧ A ≠ B ∧ A ≠ pl ∧ B ≠ pl ∧ us.length ≤ 900 ∧ As.length ≤ 900 ∧
  (xs = [] → Q .non (upd H pl (.lst ((As ++ [B]).map V.ref)))) ∧ (∀ x, xs = [x] → Q .non (upd (upd H pl (.lst ((As ++ [B]).map V.ref))) B (.lst (us ++ [x])))) ∧ (2 ≤ xs.length → Q .non (upd (upd H pl (.lst ((As ++ [B]).map V.ref))) B (.lst (us ++ [.ref A]))))
def spLists (K : PySem.W.Frag) : Sp := fun vs H Q _ => ∃ (l : Addr) (cs : List Int), vs = [.ref l] ∧ SqL K H l (cs.map V.int) ∧ cs.length ≤ 100 ∧ ∀ (A : Addr) (ts : List Nest) (us : List V) (H' : Hp), H' A = some (.lst us) → LsAt H' ts us → wordsL ts ≤ cs.length → Same H H' → Q (.ref A) H'
def spKinded (K : PySem.W.Frag) (d : Nat) : Sp := fun vs H Q _ => ∃ (v : V) (n : Nest) (k : Bool), vs = [v, .str (kS k)] ∧ LAt H n v ∧ depthN n < d ∧ words n ≤ 100 ∧ ∀ (v' : V) (H' : Hp), NestAt K H' (kindN k n) v' → Same H H' → Q v' H'
def spNestL (K : PySem.W.Frag) : Sp := fun vs H Q _ => ∃ (l : Addr) (cs : List Int) (y : Int), vs = [.ref l, .int y] ∧ SqL K H l (cs.map V.int) ∧ cs.length ≤ 60 ∧ ∀ (n : Nest) (v : V) (H' : Hp), NestAt K H' n v → valid none n = true → words n ≤ 60 → (words n = 1 ∨ words n ≤ cs.length) → Same H H' → Q v H'
def spIsN (K : PySem.W.Frag) (d : Nat) : Sp := fun vs H Q _ => ∃ (v : V) (n : Nest) (o : Option Bool), vs = [v] ∧ NestAt K H n v ∧ valid o n = true ∧ depthN n < d ∧ ∀ H', Same H H' → Q (.bl true) H'
def refsO (st : List (Addr × List Nest)) : List V := (st.reverse.map fun x => V.ref x.1)
theorem refsO_cons (x : Addr × List Nest) (r : List (Addr × List Nest)) : refsO (x :: r) = refsO r ++ [V.ref x.1] := by simp [refsO]
structure OpenAt (C H : Hp) (pl : Addr) (st : List (Addr × List Nest)) : Prop where
  sm : Same C H
  np : C pl = none
  hp : H pl = some (.lst (refsO st))
  nd : (st.map Prod.fst).Nodup
  npl : pl ∉ st.map Prod.fst
  pr : ∀ x ∈ st, C x.1 = none ∧ ∃ us, H x.1 = some (.lst us) ∧ LsAt C x.2 us
def wsum (st : List (Addr × List Nest)) : Nat := (st.map fun x => wordsL x.2).sum
section
variable {C H : Hp} {pl A B : Addr} {ts us : List Nest} {r st : List (Addr × List Nest)}
theorem same_upd_none {C H : Hp} {a : Addr} {o : HO} (h : Same C H) (hn : C a = none) : Same C (upd H a o) := fun b ob e => by
  rw [upd_ne (ne_of_none e hn)]; exact h b ob e
theorem OpenAt.ne (h : OpenAt C H pl ((A, ts) :: r)) : A ≠ pl ∧ ∀ x ∈ r, x.1 ≠ A ∧ x.1 ≠ pl := by
  have h1 := h.nd
  have h2 := h.npl
  rw [List.map_cons, List.nodup_cons] at h1
  rw [List.map_cons, List.mem_cons, not_or] at h2
  refine ⟨fun z => h2.1 z.symm, fun x hx => ⟨fun z => h1.1 ?_, fun z => h2.2 ?_⟩⟩
  · show A ∈ _
    rw [← z]; exact List.mem_map_of_mem (f := Prod.fst) hx
  · rw [← z]; exact List.mem_map_of_mem (f := Prod.fst) hx
theorem OpenAt.push (h : OpenAt C H pl st) {x : Addr} (hx : H x = none) : OpenAt C (upd (upd H x (.lst [])) pl (.lst (refsO st ++ [V.ref x]))) pl ((x, []) :: st) := by
  have hC : C x = none := by
    cases e : C x with
    | none => rfl
    | some o => rw [h.sm _ _ e] at hx; cases hx
  have nx : x ≠ pl := fun z => by rw [z, h.hp] at hx; cases hx
  have nst : ∀ y ∈ st, y.1 ≠ x := fun y hy z => by obtain ⟨_, us, e, _⟩ := h.pr y hy; rw [z, hx] at e; cases e
  have nst2 : ∀ y ∈ st, y.1 ≠ pl := fun y hy z => h.npl (by rw [← z]; exact List.mem_map_of_mem hy)
  refine ⟨same_upd_none (same_upd_none h.sm hC) h.np, h.np, by rw [upd_same, refsO_cons], ?_, ?_, fun y hy => ?_⟩
  · rw [List.map_cons, List.nodup_cons]
    refine ⟨fun z => ?_, h.nd⟩
    obtain ⟨y, hy, e⟩ := List.mem_map.mp z
    exact nst y hy e
  · rw [List.map_cons, List.mem_cons, not_or]
    exact ⟨fun z => nx z.symm, h.npl⟩
  · rcases List.mem_cons.mp hy with rfl | hy
    · exact ⟨hC, [], by rw [upd_ne nx, upd_same], rfl⟩
    · obtain ⟨h1, us, e, h2⟩ := h.pr y hy
      exact ⟨h1, us, by rw [upd_ne (nst2 y hy), upd_ne (nst y hy)]; exact e, h2⟩
theorem OpenAt.put (h : OpenAt C H pl ((A, ts) :: r)) {vs : List V} (e : H A = some (.lst vs)) {n : Nest} {v : V} (hn : LAt C n v) : OpenAt C (upd H A (.lst (vs ++ [v]))) pl ((A, ts ++ [n]) :: r) := by
  have hn0 := h.ne
  obtain ⟨hA, us, eA, hl⟩ := h.pr (A, ts) List.mem_cons_self
  rw [e] at eA
  cases eA
  refine ⟨same_upd_none h.sm hA, h.np, by rw [upd_ne hn0.1.symm, h.hp, refsO_cons, refsO_cons], h.nd, h.npl, fun y hy => ?_⟩
  rcases List.mem_cons.mp hy with rfl | hy
  · exact ⟨hA, _, upd_same, hl.app (LsAt.one hn)⟩
  · obtain ⟨h1, us, e, h2⟩ := h.pr y (List.mem_cons_of_mem _ hy)
    exact ⟨h1, us, by rw [upd_ne (hn0.2 y hy).1]; exact e, h2⟩
theorem OpenAt.drop (h : OpenAt C H pl ((A, ts) :: r)) : OpenAt C (upd H pl (.lst (refsO r))) pl r ∧ ∃ vs, H A = some (.lst vs) ∧ LsAt C ts vs ∧ (vs.length ≤ 1000 → OpenAt (upd C A (.lst vs)) (upd H pl (.lst (refsO r))) pl r ∧ Same C (upd C A (.lst vs))) := by
  have hn0 := h.ne
  obtain ⟨hA, vs, eA, hl⟩ := h.pr (A, ts) List.mem_cons_self
  have h1 := h.nd
  have h2 := h.npl
  rw [List.map_cons, List.nodup_cons] at h1
  rw [List.map_cons, List.mem_cons, not_or] at h2
  have S : Same C (upd C A (.lst vs)) := same_upd hA
  have hpr : ∀ x ∈ r, C x.1 = none ∧ ∃ us, (upd H pl (.lst (refsO r))) x.1 = some (.lst us) ∧ LsAt C x.2 us := fun y hy => by
    obtain ⟨h1, us, e, h2⟩ := h.pr y (List.mem_cons_of_mem _ hy)
    exact ⟨h1, us, by rw [upd_ne (hn0.2 y hy).2]; exact e, h2⟩
  refine ⟨⟨same_upd_none h.sm h.np, h.np, upd_same, h1.2, h2.2, hpr⟩, vs, eA, hl, fun _ => ⟨⟨?_, ?_, upd_same, h1.2, h2.2, fun y hy => ?_⟩, S⟩⟩
  · intro b ob e
    by_cases hb : b = A
    · subst hb
      rw [upd_same] at e
      rw [upd_ne hn0.1, ← e]
      exact eA
    · rw [upd_ne hb] at e
      rw [upd_ne (ne_of_none e h.np)]
      exact h.sm _ _ e
  · rw [upd_ne hn0.1.symm]; exact h.np
  · obtain ⟨h1, us, e, h2⟩ := hpr y hy
    exact ⟨by rw [upd_ne (hn0.2 y hy).1]; exact h1, us, e, h2.mono S⟩
end
mutual
def backN : Nest → Nest
  | .word => .word
  | .knot k ps => .knot k (if k then backL ps else (backL ps).reverse)
  | .bad => .bad
def backL : List Nest → List Nest
  | [] => []
  | n :: r => backN n :: backL r
end
mutual
def mirN : Nest → Nest
  | .word => .word
  | .knot k ps => .knot (!k) (mirL ps)
  | .bad => .bad
def mirL : List Nest → List Nest
  | [] => []
  | n :: r => mirN n :: mirL r
end
theorem backL_map : ∀ ps : List Nest, backL ps = ps.map backN
  | [] => rfl
  | n :: r => by rw [backL, backL_map r]; rfl
theorem mirL_map : ∀ ps : List Nest, mirL ps = ps.map mirN
  | [] => rfl
  | n :: r => by rw [mirL, mirL_map r]; rfl
theorem wordsL_sumN : ∀ ps : List Nest, wordsL ps = (ps.map words).sum
  | [] => rfl
  | n :: r => by rw [wordsL, wordsL_sumN r]; simp
theorem wordsL_rev (ps : List Nest) : wordsL ps.reverse = wordsL ps := by rw [wordsL_sumN, wordsL_sumN, List.map_reverse, List.sum_reverse]
theorem validL_all (k : Bool) : ∀ ps : List Nest, validL k ps = ps.all (valid (some k))
  | [] => rfl
  | n :: r => by rw [validL, validL_all k r]; rfl
theorem validL_rev (k : Bool) (ps : List Nest) : validL k ps.reverse = validL k ps := by rw [validL_all, validL_all, List.all_reverse]
mutual
theorem back_words : ∀ n : Nest, words (backN n) = words n
  | .word => rfl
  | .knot k ps => by
    have := back_wordsL ps
    cases k
    · simp only [backN, words]; rw [if_neg (by decide), wordsL_rev, this]
    · simp only [backN, words]; rw [if_pos trivial, this]
  | .bad => rfl
theorem back_wordsL : ∀ ps : List Nest, wordsL (backL ps) = wordsL ps
  | [] => rfl
  | n :: r => by simp only [backL, wordsL, back_words n, back_wordsL r]
end
mutual
theorem back_valid : ∀ (n : Nest) (o : Option Bool), valid o (backN n) = valid o n
  | .word, _ => rfl
  | .knot k ps, o => by
    have := back_validL ps k
    cases k
    · simp only [backN, valid]; rw [if_neg (by decide), validL_rev, this]
    · simp only [backN, valid]; rw [if_pos trivial, this]
  | .bad, _ => rfl
theorem back_validL : ∀ (ps : List Nest) (k : Bool), validL k (backL ps) = validL k ps
  | [], _ => rfl
  | n :: r, k => by simp only [backL, validL, back_valid n, back_validL r]
end
mutual
theorem back_backN : ∀ n : Nest, backN (backN n) = n
  | .word => rfl
  | .knot k ps => by
    have := back_backL ps
    cases k
    · simp only [backN]
      rw [if_neg (by decide), if_neg (by decide), backL_map, List.map_reverse, List.reverse_reverse, ← backL_map, this]
    · simp only [backN]
      rw [if_pos trivial, if_pos trivial, this]
  | .bad => rfl
theorem back_backL : ∀ ps : List Nest, backL (backL ps) = ps
  | [] => rfl
  | n :: r => by simp only [backL, back_backN n, back_backL r]
end
mutual
theorem mir_words : ∀ n : Nest, words (mirN n) = words n
  | .word => rfl
  | .knot k ps => by simp only [mirN, words, mir_wordsL ps]
  | .bad => rfl
theorem mir_wordsL : ∀ ps : List Nest, wordsL (mirL ps) = wordsL ps
  | [] => rfl
  | n :: r => by simp only [mirL, wordsL, mir_words n, mir_wordsL r]
end
mutual
theorem mir_valid : ∀ (n : Nest) (o : Option Bool), valid (o.map not) (mirN n) = valid o n
  | .word, _ => rfl
  | .knot k ps, o => by
    have := mir_validL ps k
    simp only [mirN, valid, this]
    congr 2
    cases o with
    | none => simp
    | some b => cases b <;> cases k <;> rfl
  | .bad, _ => rfl
theorem mir_validL : ∀ (ps : List Nest) (k : Bool), validL (!k) (mirL ps) = validL k ps
  | [], _ => rfl
  | n :: r, k => by
    have h1 := mir_valid n (some k)
    have h2 := mir_validL r k
    simp only [mirL, validL, h2]
    congr 1
end
mutual
theorem mir_mir : ∀ n : Nest, mirN (mirN n) = n
  | .word => rfl
  | .knot k ps => by simp only [mirN, mir_mirL ps, Bool.not_not]
  | .bad => rfl
theorem mir_mirL : ∀ ps : List Nest, mirL (mirL ps) = ps
  | [] => rfl
  | n :: r => by simp only [mirL, mir_mir n, mir_mirL r]
end
mutual
theorem back_depth : ∀ n : Nest, depthN (backN n) = depthN n
  | .word => rfl
  | .knot k ps => by
    have h := back_depthL ps
    have hr : ∀ l : List Nest, depthL l.reverse = depthL l := fun l => by
      have hm : ∀ (l : List Nest) (d : Nat), depthL l ≤ d ↔ ∀ n ∈ l, depthN n ≤ d := fun l => by
        induction l with
        | nil => intro d; simp [depthL]
        | cons a l ih => intro d; simp only [depthL, Nat.max_le, List.mem_cons, forall_eq_or_imp, ih]
      apply Nat.le_antisymm
      · rw [hm]
        intro n hn
        exact (hm l _).mp (Nat.le_refl _) n (List.mem_reverse.mp hn)
      · rw [hm]
        intro n hn
        exact (hm l.reverse _).mp (Nat.le_refl _) n (List.mem_reverse.mpr hn)
    cases k
    · simp only [backN, depthN]; rw [if_neg (by decide), hr, h]
    · simp only [backN, depthN]; rw [if_pos trivial, h]
  | .bad => rfl
theorem back_depthL : ∀ ps : List Nest, depthL (backL ps) = depthL ps
  | [] => rfl
  | n :: r => by simp only [backL, depthL, back_depth n, back_depthL r]
end
mutual
theorem mir_depth : ∀ n : Nest, depthN (mirN n) = depthN n
  | .word => rfl
  | .knot k ps => by simp only [mirN, depthN, mir_depthL ps]
  | .bad => rfl
theorem mir_depthL : ∀ ps : List Nest, depthL (mirL ps) = depthL ps
  | [] => rfl
  | n :: r => by simp only [mirL, depthL, mir_depth n, mir_depthL r]
end
mutual
theorem mir_row : ∀ (n : Nest) (f : Int), rowN (mirN n) f = (rowN n f).reverse
  | .word, _ => rfl
  | .knot k ps, f => by
    have h := mir_rows ps f
    cases k
    · simp only [mirN, rowN, Bool.not_false]
      rw [if_pos trivial, if_neg (by decide), h, List.reverse_flatten, List.map_reverse, List.reverse_reverse]
    · simp only [mirN, rowN, Bool.not_true]
      rw [if_neg (by decide), if_pos trivial, h, List.reverse_flatten]
  | .bad, _ => rfl
theorem mir_rows : ∀ (ps : List Nest) (f : Int), rowsN (mirL ps) f = (rowsN ps f).map List.reverse
  | [], _ => rfl
  | n :: r, f => by
    have h1 := mir_row n f
    have h2 := mir_rows r (f + ((rowN n f).length : Int))
    simp only [mirL, rowsN, h1, List.length_reverse, h2, List.map_cons]
end
def Inv2 (xs : List Int) (f : Int) (ys : List Int) (g : Int) : Prop := xs.length = ys.length ∧ ∀ (i : Nat) (w : Int), xs[i]? = some w → ∃ u : Nat, w = f + (u : Int) ∧ ys[u]? = some (g + (i : Int))
theorem Inv2.rise {xs xs' ys ys' : List Int} {f g : Int} (h : Inv2 xs f ys g) (h' : Inv2 xs' (f + (xs.length : Int)) ys' (g + (xs.length : Int))) : Inv2 (xs ++ xs') f (ys ++ ys') g := by
  refine ⟨by simp [h.1, h'.1], fun i w e => ?_⟩
  by_cases hi : i < xs.length
  · rw [List.getElem?_append_left hi] at e
    obtain ⟨u, e1, e2⟩ := h.2 i w e
    exact ⟨u, e1, by rw [List.getElem?_append_left (List.getElem?_eq_some_iff.mp e2).1]; exact e2⟩
  · rw [List.getElem?_append_right (by omega)] at e
    obtain ⟨u, e1, e2⟩ := h'.2 _ w e
    refine ⟨xs.length + u, by omega, ?_⟩
    rw [List.getElem?_append_right (by have := h.1; omega), show xs.length + u - ys.length = u by have := h.1; omega, e2]
    congr 1
    omega
theorem Inv2.fall {xs xs' ys ys' : List Int} {f g : Int} (h : Inv2 xs f ys (g + (xs'.length : Int))) (h' : Inv2 xs' (f + (xs.length : Int)) ys' g) : Inv2 (xs' ++ xs) f (ys ++ ys') g := by
  refine ⟨by simp [h.1, h'.1]; omega, fun i w e => ?_⟩
  by_cases hi : i < xs'.length
  · rw [List.getElem?_append_left hi] at e
    obtain ⟨u, e1, e2⟩ := h'.2 i w e
    refine ⟨xs.length + u, by omega, ?_⟩
    rw [List.getElem?_append_right (by have := h.1; omega), show xs.length + u - ys.length = u by have := h.1; omega, e2]
  · rw [List.getElem?_append_right (by omega)] at e
    obtain ⟨u, e1, e2⟩ := h.2 _ w e
    refine ⟨u, e1, ?_⟩
    rw [List.getElem?_append_left (List.getElem?_eq_some_iff.mp e2).1, e2]
    congr 1
    omega
theorem rowsN_snoc : ∀ (ps : List Nest) (n : Nest) (g : Int), rowsN (ps ++ [n]) g = rowsN ps g ++ [rowN n (g + ((rowsN ps g).flatten.length : Int))]
  | [], n, g => by simp [rowsN]
  | p :: r, n, g => by
    rw [List.cons_append, rowsN, rowsN_snoc r n, rowsN, List.cons_append, List.flatten_cons, List.length_append]
    congr 4
    omega
mutual
theorem back_row : ∀ (n : Nest) (o : Option Bool) (f g : Int), valid o n = true → Inv2 (rowN n f) f (rowN (backN n) g) g
  | .word, _, f, g, _ => by
    refine ⟨rfl, fun i w e => ?_⟩
    rw [rowN] at e
    match i, e with
    | 0, e => exact ⟨0, by simpa using e.symm, by simp [backN, rowN]⟩
    | i + 1, e => simp at e
  | .knot k ps, o, f, g, h => by
    have hv : validL k ps = true := by simp only [valid, Bool.and_eq_true] at h; exact h.2
    cases k with
    | true =>
      simp only [backN, rowN]
      rw [if_pos trivial, if_pos trivial, if_pos trivial]
      exact back_rise ps true f g hv
    | false =>
      simp only [backN, rowN]
      rw [if_neg (by decide), if_neg (by decide), if_neg (by decide)]
      exact back_fall ps false f g hv
  | .bad, _, _, _, h => by simp [valid] at h
theorem back_rise : ∀ (ps : List Nest) (k : Bool) (f g : Int), validL k ps = true → Inv2 (rowsN ps f).flatten f (rowsN (backL ps) g).flatten g
  | [], _, _, _, _ => ⟨rfl, fun i w e => by simp [rowsN] at e⟩
  | n :: r, k, f, g, h => by
    simp only [validL, Bool.and_eq_true] at h
    have h1 := back_row n (some k) f g h.1
    have h2 := back_rise r k (f + ((rowN n f).length : Int)) (g + ((rowN n f).length : Int)) h.2
    simp only [backL, rowsN, List.flatten_cons]
    rw [← h1.1]
    exact h1.rise h2
theorem back_fall : ∀ (ps : List Nest) (k : Bool) (f g : Int), validL k ps = true → Inv2 (rowsN ps f).reverse.flatten f (rowsN (backL ps).reverse g).reverse.flatten g
  | [], _, _, _, _ => ⟨rfl, fun i w e => by simp [rowsN] at e⟩
  | n :: r, k, f, g, h => by
    simp only [validL, Bool.and_eq_true] at h
    have h2 := back_fall r k (f + ((rowN n f).length : Int)) g h.2
    have e0 : ((rowsN (backL r).reverse g).flatten.length : Int) = ((rowsN r (f + ((rowN n f).length : Int))).reverse.flatten.length : Int) := by
      rw [h2.1, (flat_rev_perm _).length_eq]
    have h1 := back_row n (some k) f (g + ((rowsN r (f + ((rowN n f).length : Int))).reverse.flatten.length : Int)) h.1
    simp only [backL, rowsN, List.reverse_cons, List.flatten_append]
    rw [rowsN_snoc, List.reverse_append, List.flatten_append, e0]
    simp only [List.reverse_singleton, List.flatten_cons, List.flatten_nil, List.append_nil]
    exact h1.fall h2
end
end Tn
namespace L2
open PySem PySem.Spec PyProof PyProof.Rows Tn
theorem DEq.mono {K : PySem.W.Frag} {H : Hp} : ∀ {d : Nat} {x y : V} {b : Bool}, DEq K H d x y b → ∀ {e : Nat}, d ≤ e → DEq K H e x y b := by
  intro d x y b h
  induction h with
  | flat hx hy => intro e _; exact .flat hx hy
  | same => intro e _; exact .same
  | tup hab ha hb he ih =>
    intro e h
    obtain ⟨e', rfl⟩ : ∃ e', e = e' + 1 := ⟨e - 1, by omega⟩
    exact .tup hab ha hb fun j x y h1 h2 => ih j x y h1 h2 (by omega)
  | tupStr ha =>
    intro e h
    obtain ⟨e', rfl⟩ : ∃ e', e = e' + 1 := ⟨e - 1, by omega⟩
    exact .tupStr ha
mutual
theorem nest_deq {K : PySem.W.Frag} {H : Hp} : ∀ {n : Nest} {o : Option Bool} {x y : V}, NestAt K H n x → NestAt K H n y → valid o n = true → DEq K H (2 * depthN n) x y true
  | .word, _, x, y, hx, hy, _ => by
    have hx : x = .non := hx
    have hy : y = .non := hy
    subst hx hy
    exact .flat rfl rfl
  | .knot k ps, _, x, y, ⟨a, b, vs, e, ea, eb, h2, h3, hp⟩, ⟨a', b', vs', e', ea', eb', h2', h3', hp'⟩, hv => by
    subst e e'
    have hvp : validL k ps = true := by simp only [valid, Bool.and_eq_true] at hv; exact hv.2
    rw [depthN, show 2 * (1 + depthL ps) = (2 * depthL ps + 1) + 1 by omega]
    by_cases haa : a = a'
    · subst haa; exact .same
    · refine deq_all (e := fun _ => true) haa (SqT.of ea) (SqT.of ea') rfl (fun j x y h1 h2 => ?_) (by simp)
      match j, h1, h2 with
      | 0, h1, h2 =>
        have h1 : x = .str (kS k) := by simpa using h1.symm
        have h2 : y = .str (kS k) := by simpa using h2.symm
        subst h1 h2
        have := DEq.flat (K := K) (H := H) (d := 2 * depthL ps + 1) (x := .str (kS k)) (y := .str (kS k)) rfl rfl
        have e1 : eqV (.str (kS k)) (.str (kS k)) = true := by simp [eqV]
        rwa [e1] at this
      | 1, h1, h2 =>
        have h1 : x = .ref b := by simpa using h1.symm
        have h2 : y = .ref b' := by simpa using h2.symm
        subst h1 h2
        by_cases hbb : b = b'
        · subst hbb; exact .same
        · have l1 := hp.len
          have l2 := hp'.len
          exact deq_all (e := fun _ => true) hbb (SqT.of eb) (SqT.of eb') (by omega) (fun j x y h1 h2 => nests_deq hp hp' hvp h1 h2) (by simp)
      | j + 2, h1, _ => simp at h1
  | .bad, _, _, _, _, _, h => by simp [valid] at h
theorem nests_deq {K : PySem.W.Frag} {H : Hp} : ∀ {ps : List Nest} {k : Bool} {xs ys : List V}, NestsAt K H ps xs → NestsAt K H ps ys → validL k ps = true → ∀ {j : Nat} {x y : V}, xs[j]? = some x → ys[j]? = some y → DEq K H (2 * depthL ps) x y true
  | [], _, xs, _, hx, _, _, j, x, y, h1, _ => by have hx : xs = [] := hx; subst hx; simp at h1
  | n :: r, k, _, _, ⟨v, vr, e, h1, h2⟩, ⟨v', vr', e', h1', h2'⟩, hv, j, x, y, hj, hj' => by
    subst e e'
    simp only [validL, Bool.and_eq_true] at hv
    rw [depthL]
    match j, hj, hj' with
    | 0, hj, hj' =>
      have a1 : v = x := by simpa using hj
      have a2 : v' = y := by simpa using hj'
      subst a1 a2
      exact (nest_deq h1 h1' hv.1).mono (by have := Nat.le_max_left (depthN n) (depthL r); exact Nat.mul_le_mul_left 2 this)
    | j + 1, hj, hj' =>
      exact (nests_deq h2 h2' hv.2 (j := j) (by simpa using hj) (by simpa using hj')).mono (by have := Nat.le_max_right (depthN n) (depthL r); exact Nat.mul_le_mul_left 2 this)
end
def rNeN (K : PySem.W.Frag) : R2 := fun x y H Q => ∃ (n : Nest) (o : Option Bool), NestAt K H n x ∧ NestAt K H n y ∧ valid o n = true ∧ depthN n ≤ 60 ∧ Q (.bl false) H
end L2
namespace Tn
open PySem L2
def spBacked (K : PySem.W.Frag) (g : Nest → Nest) (d : Nat) : Sp := fun vs H Q _ => ∃ (v : V) (n : Nest) (o : Option Bool), vs = [v] ∧ NestAt K H n v ∧ valid o n = true ∧ depthN n < d ∧ ∀ (v' : V) (H' : Hp), NestAt K H' (g n) v' → Same H H' → Q v' H'
def spBackNest (K : PySem.W.Frag) (C : Addr) (g : Nest → Nest) : Sp := fun vs H Q E => ∃ (v : V) (n : Nest), vs = [v] ∧ NestAt K H n v ∧ (okN n = true → ∀ (v' : V) (H' : Hp), NestAt K H' (g n) v' → Same H H' → Q v' H') ∧ (okN n = false → ∀ H', Same H H' → E (.ref C) none H')
theorem NestsAt.rev {K : PySem.W.Frag} {H : Hp} : ∀ {ns : List Nest} {vs : List V}, NestsAt K H ns vs → NestsAt K H ns.reverse vs.reverse
  | [], _, h => by have h : _ = [] := h; subst h; exact rfl
  | _ :: _, _, ⟨v, vr, e, h1, h2⟩ => by
    subst e
    rw [List.reverse_cons, List.reverse_cons]
    exact NestsAt.app (NestsAt.rev h2) (NestsAt.one h1)
end Tn
namespace Tn
open PySem L2
def shareL {α : Type} : List Nest → List α → List (List α)
  | [], _ => []
  | n :: r, xs => xs.take (words n) :: shareL r (xs.drop (words n))
theorem shareL_len {α : Type} : ∀ (ps : List Nest) (xs : List α), (shareL ps xs).length = ps.length
  | [], _ => rfl
  | n :: r, xs => by rw [shareL, List.length_cons, shareL_len r]; rfl
def closeK (k : Bool) (qs : List Nest) : List Nest := if qs.length < 2 then qs else [.knot k (qs.flatMap (partsOf k))]
mutual
def leftP : Nest → List Bool → List Nest
  | .word, bs => if bs.headD false then [.word] else []
  | .knot k ps, bs => closeK k (leftPs ps bs)
  | .bad, _ => []
def leftPs : List Nest → List Bool → List Nest
  | [], _ => []
  | n :: r, bs => leftP n (bs.take (words n)) ++ leftPs r (bs.drop (words n))
end
theorem rowsN_app : ∀ (A B : List Nest) (g : Int), rowsN (A ++ B) g = rowsN A g ++ rowsN B (g + ((rowsN A g).flatten.length : Int))
  | [], B, g => by simp [rowsN]
  | n :: A, B, g => by
    rw [List.cons_append, rowsN, rowsN_app A B, rowsN, List.cons_append, List.flatten_cons, List.length_append]
    congr 3
    omega
theorem leftP_le : ∀ (n : Nest) (bs : List Bool), (leftP n bs).length ≤ 1
  | .word, bs => by rw [leftP]; split <;> simp
  | .knot k ps, bs => by
    rw [leftP, closeK]
    split
    · omega
    · simp
  | .bad, _ => by simp [leftP]
theorem joinL_valid {k : Bool} : ∀ {qs : List Nest}, (∀ q ∈ qs, valid none q = true) → validL k (qs.flatMap (partsOf k)) = true ∧ wordsL (qs.flatMap (partsOf k)) = wordsL qs
  | [], _ => by simp [validL, wordsL]
  | q :: r, h => by
    have h1 := parts_valid (k := k) (h q List.mem_cons_self)
    have h2 := joinL_valid (k := k) (qs := r) fun x hx => h x (List.mem_cons_of_mem _ hx)
    rw [List.flatMap_cons, validL_app, wordsL_app, h1.1, h2.1, h1.2, h2.2]
    exact ⟨rfl, rfl⟩
theorem closeK_valid {k : Bool} {qs : List Nest} (h : ∀ q ∈ qs, valid none q = true) : (∀ q ∈ closeK k qs, valid none q = true) ∧ wordsL (closeK k qs) = wordsL qs := by
  unfold closeK
  split
  · exact ⟨h, rfl⟩
  · have := joinL_valid (k := k) h
    refine ⟨fun q hq => ?_, ?_⟩
    · rw [List.mem_singleton.mp hq]
      simp [valid, this.1]
    · simp only [wordsL, words, this.2]
      omega
mutual
theorem leftP_valid : ∀ (n : Nest) (o : Option Bool) (bs : List Bool), valid o n = true → bs.length = words n → (∀ q ∈ leftP n bs, valid none q = true) ∧ wordsL (leftP n bs) = bs.count true
  | .word, _, bs, _, hl => by
    rw [words] at hl
    match bs, hl with
    | [b], _ => cases b <;> simp [leftP, valid, wordsL, words]
  | .knot k ps, o, bs, hv, hl => by
    have hvp : validL k ps = true := by simp only [valid, Bool.and_eq_true] at hv; exact hv.2
    have h := leftPs_valid ps k bs hvp (by rw [hl, words])
    have h2 := closeK_valid (k := k) h.1
    rw [leftP]
    exact ⟨h2.1, by rw [h2.2, h.2]⟩
  | .bad, _, _, hv, _ => by simp [valid] at hv
theorem leftPs_valid : ∀ (ps : List Nest) (k : Bool) (bs : List Bool), validL k ps = true → bs.length = wordsL ps → (∀ q ∈ leftPs ps bs, valid none q = true) ∧ wordsL (leftPs ps bs) = bs.count true
  | [], _, bs, _, hl => by
    rw [wordsL] at hl
    rw [List.length_eq_zero_iff.mp hl]
    simp [leftPs, wordsL]
  | n :: r, k, bs, hv, hl => by
    simp only [validL, Bool.and_eq_true] at hv
    rw [wordsL] at hl
    have h1 := leftP_valid n (some k) (bs.take (words n)) hv.1 (by rw [List.length_take]; omega)
    have h2 := leftPs_valid r k (bs.drop (words n)) hv.2 (by rw [List.length_drop]; omega)
    rw [leftPs]
    refine ⟨fun q hq => ?_, ?_⟩
    · rcases List.mem_append.mp hq with h | h
      · exact h1.1 q h
      · exact h2.1 q h
    · rw [wordsL_app, h1.2, h2.2, ← List.count_append, List.take_append_drop]
end
theorem parts_row {k : Bool} (q : Nest) (g : Int) : (seenB k (rowsN (partsOf k q) g)).flatten = rowN q g := by
  have one : (seenB k (rowsN [q] g)).flatten = rowN q g := by
    unfold seenB
    simp [rowsN]
  cases q with
  | knot k' ps =>
    unfold partsOf
    dsimp only
    split
    · rename_i h
      subst h
      rw [row_seen]
    · exact one
  | word => exact one
  | bad => exact one
theorem seenB_len (k : Bool) (rs : List (List Int)) : (seenB k rs).flatten.length = rs.flatten.length := by
  unfold seenB
  split
  · rfl
  · exact (flat_rev_perm rs).length_eq
theorem seenB_app (k : Bool) (a b : List (List Int)) : (seenB k (a ++ b)).flatten = if k then (seenB k a).flatten ++ (seenB k b).flatten else (seenB k b).flatten ++ (seenB k a).flatten := by
  cases k <;> simp [seenB]
theorem join_rows {k : Bool} : ∀ (qs : List Nest) (g : Int), (seenB k (rowsN (qs.flatMap (partsOf k)) g)).flatten = (seenB k (rowsN qs g)).flatten
  | [], g => rfl
  | q :: r, g => by
    have hl : ((rowsN (partsOf k q) g).flatten.length : Int) = ((rowN q g).length : Int) := by rw [← seenB_len k, parts_row]
    rw [List.flatMap_cons, rowsN_app, seenB_app, parts_row, hl, join_rows r, show rowsN (q :: r) g = rowsN [q] g ++ rowsN r (g + ((rowN q g).length : Int)) by simp [rowsN], seenB_app]
    have : (seenB k (rowsN [q] g)).flatten = rowN q g := by unfold seenB; simp [rowsN]
    rw [this]
theorem closeK_rows {k : Bool} (qs : List Nest) (g : Int) : (rowsN (closeK k qs) g).flatten = (seenB k (rowsN qs g)).flatten := by
  unfold closeK
  split
  · rename_i h
    match qs, h with
    | [], _ => simp [rowsN, seenB]
    | [q], _ => unfold seenB; simp [rowsN]
  · simp only [rowsN, List.flatten_cons, List.flatten_nil, List.append_nil]
    rw [row_seen, join_rows]
def keepB (f : Int) (bs : List Bool) (w : Int) : Bool := (bs[(w - f).toNat]?).getD false
def newN (f g : Int) (bs : List Bool) (w : Int) : Int := g + ((bs.take (w - f).toNat).count true : Int)
def keepF (f g : Int) (bs : List Bool) (l : List Int) : List Int := (l.filter (keepB f bs)).map (newN f g bs)
theorem keepF_app (f g : Int) (bs : List Bool) (a b : List Int) : keepF f g bs (a ++ b) = keepF f g bs a ++ keepF f g bs b := by
  unfold keepF; rw [List.filter_append, List.map_append]
theorem keepF_head {f g : Int} {bs : List Bool} {m : Nat} {l : List Int} (h : ∀ w ∈ l, f ≤ w ∧ w < f + (m : Int)) : keepF f g bs l = keepF f g (bs.take m) l := by
  induction l with
  | nil => rfl
  | cons w l ih =>
    have hw := h w List.mem_cons_self
    have ih := ih fun x hx => h x (List.mem_cons_of_mem _ hx)
    have e1 : keepB f bs w = keepB f (bs.take m) w := by
      unfold keepB
      rw [List.getElem?_take_of_lt (by omega)]
    have e2 : newN f g bs w = newN f g (bs.take m) w := by
      unfold newN
      rw [List.take_take, Nat.min_eq_left (by omega)]
    show keepF f g bs ([w] ++ l) = keepF f g (bs.take m) ([w] ++ l)
    rw [keepF_app, keepF_app, ih]
    congr 1
    unfold keepF
    simp only [List.filter_cons, List.filter_nil, e1]
    split <;> simp [e2]
theorem keepF_tail {f g : Int} {bs : List Bool} {m : Nat} {l : List Int} (hm : m ≤ bs.length) (h : ∀ w ∈ l, f + (m : Int) ≤ w) : keepF f g bs l = keepF (f + (m : Int)) (g + ((bs.take m).count true : Int)) (bs.drop m) l := by
  induction l with
  | nil => rfl
  | cons w l ih =>
    have hw := h w List.mem_cons_self
    have ih := ih fun x hx => h x (List.mem_cons_of_mem _ hx)
    have e1 : keepB f bs w = keepB (f + (m : Int)) (bs.drop m) w := by
      unfold keepB
      rw [List.getElem?_drop]
      congr 2
      omega
    have e2 : newN f g bs w = newN (f + (m : Int)) (g + ((bs.take m).count true : Int)) (bs.drop m) w := by
      unfold newN
      have : (w - f).toNat = m + (w - (f + (m : Int))).toNat := by omega
      rw [this, List.take_add, List.count_append]
      omega
    show keepF f g bs ([w] ++ l) = keepF (f + (m : Int)) (g + ((bs.take m).count true : Int)) (bs.drop m) ([w] ++ l)
    rw [keepF_app, keepF_app, ih]
    congr 1
    unfold keepF
    simp only [List.filter_cons, List.filter_nil, e1]
    split <;> simp [e2]
theorem rows_mem {ps : List Nest} {k : Bool} {f w : Int} (hv : validL k ps = true) (h : w ∈ (rowsN ps f).flatten) : f ≤ w ∧ w < f + (wordsL ps : Int) := by
  have := (rows_perm ps k f hv).mem_iff.mp h
  unfold fromTo upto at this
  simp only [List.mem_map, List.mem_range] at this
  obtain ⟨z, ⟨i, hi, rfl⟩, rfl⟩ := this
  omega
mutual
theorem left_rows : ∀ (n : Nest) (o : Option Bool) (bs : List Bool) (f g : Int), valid o n = true → bs.length = words n → (rowsN (leftP n bs) g).flatten = keepF f g bs (rowN n f)
  | .word, _, bs, f, g, _, hl => by
    rw [words] at hl
    match bs, hl with
    | [b], _ => cases b <;> simp [leftP, rowsN, rowN, keepF, keepB, newN]
  | .knot k ps, o, bs, f, g, hv, hl => by
    have hvp : validL k ps = true := by simp only [valid, Bool.and_eq_true] at hv; exact hv.2
    rw [leftP, closeK_rows, row_seen]
    exact left_rowsL ps k k bs f g hvp (by rw [hl, words])
  | .bad, _, _, _, _, hv, _ => by simp [valid] at hv
theorem left_rowsL : ∀ (ps : List Nest) (k b : Bool) (bs : List Bool) (f g : Int), validL k ps = true → bs.length = wordsL ps → (seenB b (rowsN (leftPs ps bs) g)).flatten = keepF f g bs (seenB b (rowsN ps f)).flatten
  | [], _, b, _, _, _, _, _ => by cases b <;> rfl
  | n :: r, k, b, bs, f, g, hv, hl => by
    simp only [validL, Bool.and_eq_true] at hv
    rw [wordsL] at hl
    have hb1 : (bs.take (words n)).length = words n := by rw [List.length_take]; omega
    have h1 := left_rows n (some k) (bs.take (words n)) f g hv.1 hb1
    have hln : (rowN n f).length = words n := row_len f hv.1
    have h2 := left_rowsL r k b (bs.drop (words n)) (f + (words n : Int)) (g + ((bs.take (words n)).count true : Int)) hv.2 (by rw [List.length_drop]; omega)
    have hc : ((rowsN (leftP n (bs.take (words n))) g).flatten.length : Int) = ((bs.take (words n)).count true : Int) := by
      have hq := leftP_valid n (some k) (bs.take (words n)) hv.1 hb1
      rw [← hq.2]
      have hle := leftP_le n (bs.take (words n))
      match hz : leftP n (bs.take (words n)), hle with
      | [], _ => simp [rowsN, wordsL]
      | [q], _ =>
        have := hq.1 q (by rw [hz]; exact List.mem_cons_self)
        simp [rowsN, wordsL, row_len g this]
    have hA : (seenB b (rowsN (leftP n (bs.take (words n))) g)).flatten = (rowsN (leftP n (bs.take (words n))) g).flatten := by
      have hle := leftP_le n (bs.take (words n))
      match leftP n (bs.take (words n)), hle with
      | [], _ => cases b <;> rfl
      | [q], _ => unfold seenB; simp [rowsN]
    rw [leftPs, rowsN_app, seenB_app, hc, h2, hA, h1, show rowsN (n :: r) f = rowsN [n] f ++ rowsN r (f + ((rowN n f).length : Int)) by simp [rowsN], seenB_app, hln]
    have hone : (seenB b (rowsN [n] f)).flatten = rowN n f := by unfold seenB; simp [rowsN]
    rw [hone]
    have e1 : keepF f g bs (rowN n f) = keepF f g (bs.take (words n)) (rowN n f) := keepF_head fun w hw => row_mem hv.1 hw
    have e2 : keepF f g bs (seenB b (rowsN r (f + (words n : Int)))).flatten = keepF (f + (words n : Int)) (g + ((bs.take (words n)).count true : Int)) (bs.drop (words n)) (seenB b (rowsN r (f + (words n : Int)))).flatten := by
      refine keepF_tail (by omega) fun w hw => ?_
      have : w ∈ (rowsN r (f + (words n : Int))).flatten := by
        unfold seenB at hw
        split at hw
        · exact hw
        · exact (flat_rev_perm _).mem_iff.mp hw
      exact (rows_mem hv.2 this).1
    cases b
    · simp only [Bool.false_eq_true, if_false]
      rw [keepF_app, e1, e2]
    · simp only [if_true]
      rw [keepF_app, e1, e2]
end
def marks (ws : List Int) (m : Nat) : List Bool := (List.range m).map fun (i : Nat) => decide ((i : Int) ∈ ws)
end Tn
namespace Tn
open PySem L2
def VLs (H : Hp) (rs : List Addr) (xss : List (List V)) : Prop := Paired (fun r xs => H r = some (.lst xs)) rs xss
theorem VLs.len {H : Hp} : ∀ {rs : List Addr} {xss : List (List V)}, VLs H rs xss → rs.length = xss.length
  | _, _, .nil => rfl
  | _, _, .cons _ t => congrArg (· + 1) (VLs.len t)
theorem VLs.get {H : Hp} : ∀ {rs : List Addr} {xss : List (List V)} {i : Nat} {p : Addr}, VLs H rs xss → rs[i]? = some p → ∃ xs, xss[i]? = some xs ∧ H p = some (.lst xs)
  | _, _, _, _, .nil, e => by simp at e
  | _, _, 0, _, .cons h _, e => by simp at e; subst e; exact ⟨_, rfl, h⟩
  | _, _, i + 1, p, .cons _ t, e => by
    obtain ⟨x, h1, h2⟩ := VLs.get (i := i) (p := p) t (by simpa using e)
    exact ⟨x, by simpa using h1, h2⟩
theorem VLs.mono {H H' : Hp} (s : Same H H') : ∀ {rs : List Addr} {xss : List (List V)}, VLs H rs xss → VLs H' rs xss
  | _, _, .nil => .nil
  | _, _, .cons h t => .cons (s _ _ h) (VLs.mono s t)
theorem VLs.upd {H : Hp} {l : Addr} {o : HO} : ∀ {rs : List Addr} {xss : List (List V)}, l ∉ rs → VLs H rs xss → VLs (L2.upd H l o) rs xss
  | _, _, _, .nil => .nil
  | p :: _, _ :: _, hn, .cons h t => .cons (by rw [upd_ne (fun z => hn (by rw [← z]; exact List.mem_cons_self))]; exact h) (VLs.upd (fun z => hn (List.mem_cons_of_mem _ z)) t)
theorem VLs.app {H : Hp} : ∀ {rs qs : List Addr} {xss yss : List (List V)}, VLs H rs xss → VLs H qs yss → VLs H (rs ++ qs) (xss ++ yss)
  | _, _, _, _, .nil, h => h
  | _, _, _, _, .cons a t, h => .cons a (VLs.app t h)
def ofK (k : Bool) : Nest → Bool
  | .knot k' _ => decide (k' = k)
  | _ => false
def spOfKind (K : PySem.W.Frag) : Sp := fun vs H Q _ => ∃ (v : V) (n : Nest) (o : Option Bool) (k : Bool), vs = [v, .str (kS k)] ∧ NestAt K H n v ∧ valid o n = true ∧ Q (.bl (ofK k n)) H
def spShared (K : PySem.W.Frag) (d : Nat) : Sp := fun vs H Q _ => ∃ (a l : Addr) (k : Bool) (ps : List Nest) (xs : List V), vs = [.ref a, .ref l] ∧ NestAt K H (.knot k ps) (.ref a) ∧ validL k ps = true ∧ depthL ps < d ∧ SqL K H l xs ∧ xs.length ≤ 1000 ∧ wordsL ps ≤ xs.length ∧
  ∀ (sh : Addr) (rs : List Addr) (H' : Hp), H sh = none → H' sh = some (.lst (rs.map V.ref)) → VLs H' rs (shareL ps xs) → Same H H' → Q (.ref sh) H'
def spKnotOf (K : PySem.W.Frag) : Sp := fun vs H Q _ => ∃ (l : Addr) (k : Bool) (ns : List Nest) (us : List V), vs = [.str (kS k), .ref l] ∧ H l = some (.lst us) ∧ NestsAt K H ns us ∧ (∀ n ∈ ns, valid none n = true) ∧ wordsL ns ≤ 900 ∧ 2 ≤ ns.length ∧
  ∀ (v : V) (H' : Hp), NestAt K H' (.knot k (ns.flatMap (partsOf k))) v → Same H H' → Q v H'
def spLeftP (K : PySem.W.Frag) (d : Nat) : Sp := fun vs H Q _ => ∃ (v : V) (l : Addr) (n : Nest) (o : Option Bool) (bs : List Bool), vs = [v, .ref l] ∧ NestAt K H n v ∧ valid o n = true ∧ depthN n < d ∧ words n ≤ 60 ∧ SqL K H l (bs.map V.bl) ∧ bs.length = words n ∧
  ∀ (p : Addr) (us : List V) (H' : Hp), H p = none → H' p = some (.lst us) → NestsAt K H' (leftP n bs) us → Same H H' → Q (.ref p) H'
def ahead (ps : List Nest) (i : Nat) : Nat := wordsL (ps.take i)
theorem ahead_succ {ps : List Nest} {i : Nat} {n : Nest} (h : ps[i]? = some n) : ahead ps (i + 1) = ahead ps i + words n := by
  unfold ahead
  rw [List.take_succ, h, wordsL_app]
  simp [wordsL]
theorem ahead_le (ps : List Nest) (i : Nat) : ahead ps i ≤ wordsL ps := by
  have := wordsL_app (ps.take i) (ps.drop i)
  rw [List.take_append_drop] at this
  unfold ahead
  omega
theorem shareL_get {α : Type} : ∀ {ps : List Nest} {xs : List α} {i : Nat} {n : Nest}, ps[i]? = some n → (shareL ps xs)[i]? = some ((xs.drop (ahead ps i)).take (words n))
  | [], _, _, _, h => by simp at h
  | m :: r, xs, 0, n, h => by simp at h; subst h; simp [shareL, ahead, wordsL]
  | m :: r, xs, i + 1, n, h => by
    have := shareL_get (ps := r) (xs := xs.drop (words m)) (i := i) (n := n) (by simpa using h)
    simp only [shareL, List.getElem?_cons_succ, this]
    rw [List.drop_drop, show words m + ahead r i = ahead (m :: r) (i + 1) by unfold ahead; simp only [List.take_succ_cons, wordsL]]
theorem shareL_take {α : Type} {ps : List Nest} {xs : List α} {i : Nat} {n : Nest} (h : ps[i]? = some n) : (shareL ps xs).take (i + 1) = (shareL ps xs).take i ++ [(xs.drop (ahead ps i)).take (words n)] := by
  rw [List.take_succ, shareL_get h]
  rfl
end Tn
namespace L2
open PySem PySem.Spec PyProof PyProof.Rows
section
variable {X : Cx}
theorem strsAre_of : ∀ {xs : List Str} {us : List Value}, Vals (xs.map V.str) us → StrsAre us xs
  | [], _, r => by cases r; exact .nil
  | x :: xs, _, r => by
    cases r with
    | cons rx rr =>
      obtain ⟨t, rfl⟩ := rx
      exact .cons x t (strsAre_of rr)
def rJoin (K : PySem.W.Frag) : V → List V → Hp → VK → Prop := fun x vs H Q => ∃ (sep : Str) (b : Addr) (xs : List Str), x = .str sep ∧ vs = [.ref b] ∧ SqL K H b (xs.map V.str) ∧ (xs.map (·.length)).sum + xs.length * sep.length ≤ 16777216 ∧ Q (.str (Txt.join sep xs)) H
theorem mt_join : MtM X "str.join" (rJoin X.K) := by
  intro pins s σ H x vs v us Q I rx rv h
  obtain ⟨sep, b, xs, rfl, rfl, hb, hz, q⟩ := h
  obtain ⟨t, rfl⟩ := rx
  obtain ⟨u, rfl, ru⟩ := vals1 rv
  cases ru
  obtain ⟨its, r, pl, _⟩ := I.list hb
  exact join_list pl.isList (by simpa using strsAre_of r) hz fun t' k => ⟨.str _, H, I.tok _, ⟨_, rfl⟩, q⟩
def rCountS : V → List V → Hp → VK → Prop := fun x vs H Q => ∃ (i j : Str), x = .str i ∧ vs = [.str j] ∧ Q (.int (Txt.count i j)) H
def rSlS : V → Option Int → Option Int → Hp → VK → Prop := fun x lo hi H Q => ∃ i : Str, x = .str i ∧ i.length ≤ sizeLine ∧ Q (.str (Txt.slice i lo hi)) H
def repS (i : Str) (n : Nat) : Str := ⟨(List.replicate n i.cps).foldl (· ++ ·) #[]⟩
def rRepS : R2 := fun x y H Q => ∃ (i : Str) (n : Nat), x = .str i ∧ y = .int (n : Int) ∧ i.length ≤ 1000 ∧ n ≤ 1000 ∧ Q (.str (repS i n)) H
end
end L2
namespace L2
open PySem PySem.Spec PyProof PyProof.Rows
theorem countIn_strs (k : Str) : ∀ (ys : List Str), countIn (.str k) (ys.map PyData.str) = ((ys.count k : Nat) : Int)
  | [] => rfl
  | y :: r => by
    rw [List.map_cons, countIn, countIn_strs k r, List.count_cons]
    simp only [same]
    rcases Bool.eq_false_or_eq_true (y == k) with hb | hb <;> simp only [hb, Bool.false_eq_true, if_true, if_false] <;> omega
section
variable {X : Cx}
def rCountL (K : PySem.W.Frag) : V → List V → Hp → VK → Prop := fun x vs H Q => ∃ (l : Addr) (xs : List Str) (k : Str), x = .ref l ∧ vs = [.str k] ∧ SqL K H l (xs.map V.str) ∧ Q (.int ((xs.count k : Nat) : Int)) H
theorem mt_countL : MtM X "list.count" (rCountL X.K) := by
  intro pins s σ H x vs v us Q I rx rv h
  obtain ⟨l, xs, k, rfl, rfl, hl, q⟩ := h
  cases rx
  obtain ⟨u, rfl, ru⟩ := vals1 rv
  obtain ⟨t', rfl⟩ := ru
  obtain ⟨its, r, pl, _⟩ := I.list hl
  exact count_list_strs pl.isList (by simpa using strsAre_of r) ⟨.int _, H, I.tok _, ⟨_, by rw [countIn_strs]⟩, q⟩
end
end L2
namespace Tn
open PySem L2
mutual
def txN : Nest → List Nat
  | .word => [46]
  | .bad => []
  | .knot k ps => 40 :: (if k then 43 else 45) :: (txL ps ++ [41])
def txL : List Nest → List Nat
  | [] => []
  | n :: r => txN n ++ txL r
end
inductive RSt where
  | done (r : Option (List Nest))
  | more (cs : List Nat) (ks : List Bool) (pss : List (List Nest))
def mkN (k : Bool) (ps : List Nest) : Nest := if ps.length < 2 then .bad else .knot k ps
def stepR (strict : Bool) : List Nat → List Bool → List (List Nest) → RSt
  | [], [], [p] => .done (some p)
  | [], _, _ => .done none
  | 46 :: r, ks, p :: pss => .more r ks ((p ++ [.word]) :: pss)
  | 40 :: 43 :: r, ks, pss => .more r (true :: ks) ([] :: pss)
  | 40 :: 45 :: r, ks, pss => .more r (false :: ks) ([] :: pss)
  | 41 :: r, k :: ks, p :: q :: pss => if strict = true ∧ (p.length < 2 ∨ ks.head? = some k) then .done none else .more r ks ((q ++ [mkN k p]) :: pss)
  | _, _, _ => .done none
theorem step_len {s : Bool} {cs cs' : List Nat} {ks ks' : List Bool} {pss pss' : List (List Nest)} (h : stepR s cs ks pss = .more cs' ks' pss') : cs'.length < cs.length := by
  unfold stepR at h
  split at h <;> first | (cases h; simp only [List.length_cons]; omega) | (split at h <;> first | (cases h; simp only [List.length_cons]; omega) | cases h) | cases h
def runR (s : Bool) : Nat → List Nat → List Bool → List (List Nest) → Option (List Nest)
  | 0, _, _, _ => none
  | n + 1, cs, ks, pss => match stepR s cs ks pss with
    | .done r => r
    | .more cs' ks' pss' => runR s n cs' ks' pss'
theorem run_fuel (s : Bool) : ∀ (n m : Nat) (cs : List Nat) (ks : List Bool) (pss : List (List Nest)), cs.length < n → cs.length < m → runR s n cs ks pss = runR s m cs ks pss
  | 0, _, _, _, _, h, _ => absurd h (Nat.not_lt_zero _)
  | _ + 1, 0, _, _, _, _, h => absurd h (Nat.not_lt_zero _)
  | n + 1, m + 1, cs, ks, pss, h1, h2 => by
    rw [runR, runR]
    cases e : stepR s cs ks pss with
    | done r => rfl
    | more cs' ks' pss' =>
      have := step_len e
      exact run_fuel s n m cs' ks' pss' (by omega) (by omega)
def readG (s : Bool) (cs : List Nat) (ks : List Bool) (pss : List (List Nest)) : Option (List Nest) := runR s (cs.length + 1) cs ks pss
theorem read_more {s : Bool} {cs cs' : List Nat} {ks ks' : List Bool} {pss pss' : List (List Nest)} (h : stepR s cs ks pss = .more cs' ks' pss') : readG s cs ks pss = readG s cs' ks' pss' := by
  have := step_len h
  unfold readG
  rw [runR, h]
  exact run_fuel s _ _ cs' ks' pss' (by omega) (by omega)
def allV (o : Option Bool) (p : List Nest) : Bool := p.all (valid o)
def frV : List Bool → List (List Nest) → Bool
  | [], [p] => allV none p
  | k :: ks, p :: pss => allV (some k) p && frV ks pss
  | _, _ => false
mutual
theorem read_tx : ∀ {n : Nest} {ks : List Bool} {p : List Nest} {pss : List (List Nest)} {cs : List Nat}, fit n = true → readG false (txN n ++ cs) ks (p :: pss) = readG false cs ks ((p ++ [n]) :: pss)
  | .word, ks, p, pss, cs, _ => read_more (show stepR false (46 :: cs) ks (p :: pss) = _ from rfl)
  | .bad, _, _, _, _, h => by simp [fit] at h
  | .knot k qs, ks, p, pss, cs, h => by
    simp only [fit, Bool.and_eq_true, decide_eq_true_eq] at h
    have h1 : readG false (txN (.knot k qs) ++ cs) ks (p :: pss) = readG false (txL qs ++ (41 :: cs)) (k :: ks) ([] :: p :: pss) := by
      cases k
      · refine read_more ?_
        simp [txN, stepR]
      · refine read_more ?_
        simp [txN, stepR]
    rw [h1, read_txL h.2, List.nil_append]
    refine read_more ?_
    simp [stepR, mkN, show ¬ qs.length < 2 by omega]
theorem read_txL : ∀ {ps : List Nest} {ks : List Bool} {p : List Nest} {pss : List (List Nest)} {cs : List Nat}, fitL ps = true → readG false (txL ps ++ cs) ks (p :: pss) = readG false cs ks ((p ++ ps) :: pss)
  | [], ks, p, pss, cs, _ => by simp [txL]
  | n :: r, ks, p, pss, cs, h => by
    simp only [fitL, Bool.and_eq_true] at h
    rw [txL, List.append_assoc, read_tx h.1, read_txL h.2]
    simp
end
def dots (cs : List Nat) : Nat := (cs.filter (· == 46)).length
def txS (n : Nest) : Str := ⟨(txN n).toArray⟩
mutual
theorem tx_len : ∀ {n : Nest}, fit n = true → (txN n).length + 3 ≤ 4 * words n
  | .word, _ => by decide
  | .bad, h => by simp [fit] at h
  | .knot k ps, h => by
    simp only [fit, Bool.and_eq_true, decide_eq_true_eq] at h
    have := tx_lenL h.2
    simp only [txN, words, List.length_append, List.length_cons, List.length_nil]
    omega
theorem tx_lenL : ∀ {ps : List Nest}, fitL ps = true → (txL ps).length + 3 * ps.length ≤ 4 * wordsL ps
  | [], _ => by decide
  | n :: r, h => by
    simp only [fitL, Bool.and_eq_true] at h
    have h1 := tx_len h.1
    have h2 := tx_lenL h.2
    simp only [txL, wordsL, List.length_append, List.length_cons]
    omega
end
def readP (cs : List Nat) : Option Nest := match readG false cs [] [[]] with
  | some [n] => if okN n = true then some n else none
  | _ => none
def spWritten (K : PySem.W.Frag) (d : Nat) : Sp := fun vs H Q _ => ∃ (v : V) (n : Nest) (o : Option Bool), vs = [v] ∧ NestAt K H n v ∧ valid o n = true ∧ depthN n < d ∧ words n ≤ 60 ∧ ∀ H', Same H H' → Q (.str (txS n)) H'
def spShow (K : PySem.W.Frag) (C : Addr) : Sp := fun vs H Q E => ∃ (v : V) (n : Nest), vs = [v] ∧ NestAt K H n v ∧ (okN n = true → ∀ H', Same H H' → Q (.str (txS n)) H') ∧ (okN n = false → ∀ H', Same H H' → E (.ref C) none H')
theorem str_ext {x y : Str} (h : x.cps.toList = y.cps.toList) : x = y := congrArg Str.mk (Array.toList_inj.mp h)
theorem str_cat (x y : Str) : (x ++ y).cps.toList = x.cps.toList ++ y.cps.toList := by
  show (x.cps ++ y.cps).toList = _
  rw [Array.toList_append]
theorem str_len (x y : Str) : (x ++ y).length = x.length + y.length := by
  show (x.cps ++ y.cps).size = _
  rw [Array.size_append]
  rfl
def pts (cs : List Nat) : Nat := (cs.filter fun c => c == 46 || c == 41).length
def spOnlyN (K : PySem.W.Frag) (C : Addr) : Sp := fun vs H Q E => ∃ (l : Addr) (us : List V) (ns : List Nest), vs = [.ref l] ∧ H l = some (.lst us) ∧ NestsAt K H ns us ∧
  (∀ n v, ns = [n] → us = [v] → okN n = true → ∀ H', Same H H' → Q v H') ∧ ((∀ n, ns = [n] → okN n = false) → ∀ H', Same H H' → E (.ref C) none H')
def spRead (K : PySem.W.Frag) (C : Addr) : Sp := fun vs H Q E => ∃ v : V, vs = [v] ∧ ((∃ x : Str, v = .str x ∧ x.length ≤ 3000 ∧ pts x.cps.toList ≤ 900 ∧ (∀ n, readP x.cps.toList = some n → ∀ v' H', NestAt K H' n v' → Same H H' → Q v' H') ∧ (readP x.cps.toList = none → ∀ H', Same H H' → E (.ref C) none H')) ∨
  (∃ t, TyOf K H v t ∧ PySem.W.kitOne K t (.type "str") = some false ∧ ∀ H', Same H H' → E (.ref C) none H'))
end Tn
namespace Tn
open PySem
section
variable {prog : Program} {w : World} {A : Around} {E : Value → Shared → Prop} {s : Shared} {I : Addr} {fp wr : List Addr} {G : Array GenState → Array GenState → Prop} {n : Nat} {P : Nat → Value → Prop} {St : Nat → Shared → Prop}
theorem list_it {T : String} {Q : Value → Shared → Prop} (W : WalksS prog w A.in1.in1 I fp wr G n P St) (hn : n ≤ sizeLine) (t1 : (Value.type T == Value.type "list") = false) (t2 : (Value.type T == Value.type "tuple") = false) (hT : ∀ s, St 0 s → s.TypeIs (.ref I) T)
    (hhint : ∀ (s1 : Shared) (Q' : Bool → Shared → Prop) (E' : Value → Shared → Prop), St 0 s1 → (∀ b tk, s1.toks ≤ tk → Q' b { s1 with toks := tk }) → wpAny (model prog w) A.in1.in1 (Builtin.List.listLengthHint (.ref I)) Q' E' s1)
    (hst : St 0 s) (hfp : ∀ b ∈ fp, b < s.heap.objs.size) (hI : I ∈ fp)
    (hQ : ∀ s' acc' c', Moved (s.heap.objs.size :: wr) G { s with heap := s.heap.push { cls := .type "list", data := .seq #[] } } s' → s'.heap.get? s.heap.objs.size = some { cls := .type "list", dict := none, data := .seq acc' c', slots := #[] } → ItemsOf P acc' n → Q (.ref s.heap.objs.size) s') :
    wpAny (model prog w) A (call (.type "list") [.ref I]) Q E s := by
  have hSf : s.heap.objs.size ∉ fp := fun hm => Nat.lt_irrefl _ (hfp _ hm)
  have hSI : s.heap.objs.size ≠ I := fun e => hSf (e ▸ hI)
  refine callType_codes (Q₁ := fun obj s₁ => obj = .ref s.heap.objs.size ∧ s₁ = { s with heap := s.heap.push { cls := .type "list", data := .seq #[] } }) F.called_list (F.typeCall_list_1 _) F.entry_list_init (code_list_new _ ⟨rfl, rfl⟩) fun obj s₁ h₁ => ?_
  obtain ⟨rfl, rfl⟩ := h₁
  have hS0 : ({ s with heap := s.heap.push { cls := .type "list", data := .seq #[] } } : Shared).heap.get? s.heap.objs.size = some { cls := .type "list", data := .seq #[] } := Heap.get?_push_size _ rfl
  have st0 : St 0 { s with heap := s.heap.push { cls := .type "list", data := .seq #[] } } := W.frame 0 s _ s.toks hst (Nat.le_refl _) fun b _ o e => Heap.get?_push_of_some _ e
  refine ⟨⟨_, hS0, rfl⟩, F.args_list_init_2 _ _, ?_⟩
  generalize s.heap.objs.size = S at hSf hSI hS0 hQ ⊢
  generalize ({ s with heap := s.heap.push { cls := .type "list", data := .seq #[] } } : Shared) = sA at hS0 st0 hQ ⊢
  show wpAny _ _ (Builtin.List.listItems (.ref S) >>= fun old => Builtin.List.listUpdate (.ref S) (fun _ => #[]) >>= fun _ => letGo old.toList.reverse >>= fun _ => Builtin.List.listExtendWith (.ref S) (.ref I) .none) _ _ sA
  refine wpAny_bind ?_; unfold Builtin.List.listItems; refine wpAny_bind (wpAny_seqItems hS0 rfl (wpAny_pure ?_))
  show wpAny _ _ (updateSeq S (fun _ => #[]) >>= fun _ => letGo (#[] : Array Value).toList.reverse >>= fun _ => Builtin.List.listExtendWith (.ref S) (.ref I) .none) _ _ sA
  refine wpAny_bind (wpAny_updateSeq hS0 rfl ?_); have hS1 := Heap.get?_update_self (Obj.mapSeq (fun _ => (#[] : Array Value))) hS0 rfl
  have ot1 : ∀ b o, b ≠ S → sA.heap.get? b = some o → (sA.heap.update S (Obj.mapSeq (fun _ => (#[] : Array Value)))).get? b = some o := fun b o hb e => (Heap.get?_update_other _ _ (Ne.symm hb)).trans e
  refine wpAny_bind (wpAny_letGo ?_)
  have st1 : St 0 { sA with heap := sA.heap.update S (Obj.mapSeq (fun _ => (#[] : Array Value))) } := W.frame 0 sA _ sA.toks st0 (Nat.le_refl _) fun b hb o e => ot1 b o (fun h => hSf (h ▸ hb)) e
  unfold Builtin.List.listExtendWith; refine wpAny_bind (wpAny_typeOf (hT _ st1) ?_)
  have h1 : Builtin.List.listSameRef (.ref S) (.ref I) = false := by simp [Builtin.List.listSameRef, hSI]
  simp only [h1, t1, t2, Bool.or_false, Bool.false_eq_true, if_false]; refine wpAny_bind (W.self 0 _ _ _ st1 ?_)
  refine wpAny_bind (wpAny_holding (hhint _ _ _ st1 fun b tk htk => ?_))
  have fin : ∀ (h' : Heap) (c : Nat), (∀ b o, b ≠ S → sA.heap.get? b = some o → h'.get? b = some o) → h'.get? S = some { cls := .type "list", dict := none, data := .seq #[] c, slots := #[] } →
      codeAny (model prog w) A.in1 (.builtin "list.extend.loop" ⟨[.ref S, .ref I, .none], []⟩) (wants (fun r s₂ => r = .none ∧ Q (.ref S) s₂) E) { sA with heap := h', toks := tk } := fun h' c kp hS' => by
    refine codeAny_extend_loopS W hn S hSf .none n 0 { sA with heap := h', toks := tk } #[] c rfl (Nat.zero_le _) (W.frame 0 sA _ _ st0 htk fun b hb o e => kp b o (fun h => hSf (h ▸ hb)) e) hS' (ItemsOf.nil P) fun s' acc' c' hm hS2 hacc => ?_
    exact ⟨rfl, hQ s' acc' c' ⟨fun b o hb e => hm.heap b o hb (kp b o (fun h => hb (h ▸ List.mem_cons_self)) e), hm.gens, hm.drawn, hm.os, Nat.le_trans htk hm.toks⟩ hS2 hacc⟩
  refine wpAny_ite_split (fun _ => ?_) (fun _ => wpAny_pure ⟨plainId_quiet F.plain_extend_loop _, fin _ _ ot1 hS1⟩)
  refine wpAny_bind (wpAny_rule ?_); refine wpAny_bind ?_
  show wpAny _ _ (updateSeq S (·.push .none) >>= fun _ => updateSeq S (·.pop)) _ _ _
  refine wpAny_bind (wpAny_updateSeq hS1 rfl ?_); have hS2 := Heap.get?_update_self (Obj.mapSeq (·.push Value.none)) hS1 rfl
  refine wpAny_updateSeq (hz := by seq_fits) hS2 rfl ?_; have hS3 := Heap.get?_update_self (Obj.mapSeq (·.pop)) hS2 rfl
  exact wpAny_pure ⟨plainId_quiet F.plain_extend_loop _, fin _ _ (fun b o hb e => (Heap.get?_update_other _ _ (Ne.symm hb)).trans ((Heap.get?_update_other _ _ (Ne.symm hb)).trans (ot1 b o hb e))) hS3⟩
end
theorem lri_nolen : typeLookup (.type "list_reverseiterator") "__len__" = pure none := by rw [typeLookup_type, builtinLookup_eq_fast]; kernel_rfl
theorem lri_hintL : typeLookup (.type "list_reverseiterator") "__length_hint__" = pure (some (.builtin "list_reverseiterator.__length_hint__")) := by rw [typeLookup_type, builtinLookup_eq_fast]; kernel_rfl
theorem lri_sub : isSubtype (.type "list_reverseiterator") (.type "list_reverseiterator") = pure true := by rw [isSubtype_type]; kernel_rfl
section
variable {prog : Program} {w : World} {A : Around} {E : Value → Shared → Prop} {s : Shared}
theorem lri_hint {a : Addr} {Q : Bool → Shared → Prop} (hT : s.TypeIs (.ref a) "list_reverseiterator") (hQ : Q false s) : wpAny (model prog w) A (Builtin.List.listLengthHint (.ref a)) Q E s := by
  unfold Builtin.List.listLengthHint; refine wpAny_bind (wpAny_specialOf hT lri_nolen ?_)
  show wpAny _ _ (specialOf (Value.ref a) (Str.ofString "__length_hint__") >>= _) _ _ _
  refine wpAny_bind (wpAny_specialOf hT lri_hintL ?_); try dsimp only
  rw [show splitId "list_reverseiterator.__length_hint__" = some ("list_reverseiterator", "__length_hint__") from by decide +kernel]
  refine wpAny_bind (wpAny_isInstance (T := "list_reverseiterator") (b := true) hT lri_sub ?_)
  rw [if_neg (by decide)]; rw [if_pos (by decide +kernel)]
  rw [if_neg (by decide +kernel)]
  exact wpAny_pure hQ
theorem list_lri {l : Addr} {items : Array Value} {Q : Value → Shared → Prop} (hh : A.handled = none) (hl : s.heap.IsList l items) (hz : items.size ≤ sizeLine) {it : Addr} (hit : s.heap.IsRevIter it l ((items.size : Int) - 1)) (hne : l ≠ it)
    (hQ : ∀ h' tk acc' c', (∀ b o, b ≠ it → s.heap.get? b = some o → h'.get? b = some o) → h'.get? s.heap.objs.size = some { cls := .type "list", dict := none, data := .seq acc' c', slots := #[] } → ItemsOf (fun i v => items[items.size - 1 - i]? = some v) acc' items.size → Q (.ref s.heap.objs.size) { s with heap := h', toks := tk }) :
    wpAny (model prog w) A (call (.type "list") [.ref it]) Q E s := by
  have la : it < s.heap.objs.size := by obtain ⟨o, e, _⟩ := hit; exact Heap.lt_size e
  have ll : l < s.heap.objs.size := by obtain ⟨o, e, _⟩ := hl; exact Heap.lt_size e
  have W := (Walks.listRev (prog := prog) (w := w) (A := A.in1.in1) hh it l hne items).toS
  refine list_it (T := "list_reverseiterator") W hz (by decide) (by decide) (fun s st => st.2.1.typeIs) (fun s1 Q' E' st h => lri_hint st.2.1.typeIs (h false s1.toks (Nat.le_refl _))) ⟨Nat.zero_le _, by simpa using hit, hl⟩ (fun b hb => ?_) (by simp) fun s' acc' c' hm hS hacc => ?_
  · rcases List.mem_cons.mp hb with rfl | hb
    · exact la
    · have : b = l := by simpa using hb
      subst this; exact ll
  · rw [Moved.eq_with hm]
    refine hQ s'.heap s'.toks acc' c' (fun b o hb e => hm.heap b o (fun h => ?_) (Heap.get?_push_of_some _ e)) hS hacc
    rcases List.mem_cons.mp h with z | z
    · subst z; exact absurd (Heap.lt_size e) (Nat.lt_irrefl _)
    · exact hb (by simpa using z)
end
end Tn
namespace L2
open PySem PySem.Spec PyProof.Rows
section
variable {X : Cx}
def tLstRev (K : PySem.W.Frag) (ta : TA) : TE := fun σ H Q => ta σ H fun vs H1 => ∃ a xs, vs = [.ref a] ∧ SqT K H1 a xs ∧ ∀ p, H1 p = none → Q (.ref p) (upd H1 p (.lst xs.reverse))
def tLstRevL (K : PySem.W.Frag) (ta : TA) : TE := fun σ H Q => ta σ H fun vs H1 => ∃ a xs, vs = [.ref a] ∧ SqL K H1 a xs ∧ ∀ p, H1 p = none → Q (.ref p) (upd H1 p (.lst xs.reverse))
theorem lst_fin {pins : List (Addr × Obj)} {σ : St} {H1 : Hp} {s1 : Shared} {h2 : Heap} {xs : List V} {its : List Value} {Q : VK} {acc' : Array Value} {c' tk : Nat} {h' : Heap} (I1 : Inv X pins σ H1 s1) (it : Addr) (hit : it = s1.heap.objs.size) (k2 : ∀ b o, s1.heap.get? b = some o → h2.get? b = some o) (hsz : h2.objs.size = s1.heap.objs.size + 1)
    (rv : Vals xs its) (hz : xs.length ≤ sizeLine) (kp : ∀ b o, b ≠ it → h2.get? b = some o → h'.get? b = some o) (hS : h'.get? h2.objs.size = some { cls := .type "list", dict := none, data := .seq acc' c', slots := #[] }) (hacc : ItemsOf (fun i v => its.toArray[its.toArray.size - 1 - i]? = some v) acc' its.toArray.size)
    (q : ∀ p, H1 p = none → Q (.ref p) (upd H1 p (.lst xs.reverse))) : EP X pins σ Q (.ref h2.objs.size) { s1 with heap := h', toks := tk } := by
  have k3 : ∀ b o, s1.heap.get? b = some o → h'.get? b = some o := fun b o e => kp b o (fun z => by rw [z, hit] at e; exact absurd (Heap.lt_size e) (Nat.lt_irrefl _)) (k2 b o e)
  have hge : s1.heap.objs.size ≤ h2.objs.size := by rw [hsz]; exact Nat.le_succ _
  exact ⟨.ref h2.objs.size, _, I1.laid (t' := tk) (o := .lst xs.reverse) k3 hge ⟨by rw [List.length_reverse]; exact hz, acc'.toList, c', vals_rev rv hacc, by simpa using hS⟩, rfl, q _ (I1.hok.fresh hge)⟩
theorem pe_lstRevL {e : Expr} {ta : TA} {p1 p2 pos1 pos2 : Pos} (hg : Gl X "list") (hg2 : Gl X "reversed") (hm : X.mg "list" = none) (hm2 : X.mg "reversed" = none) (hc : X.calm = true) (ha : PA X [e] ta)
    (hs : starEach [e] X.env = [(false, eval e X.env)] := by rfl) (hs2 : starEach [Expr.Call (.Name "reversed" p2) [e] [] pos2] X.env = [(false, eval (.Call (.Name "reversed" p2) [e] [] pos2) X.env)] := by rfl) :
    PE X (.Call (.Name "list" p1) [.Call (.Name "reversed" p2) [e] [] pos2] [] pos1) (tLstRevL X.K ta) := by
  intro pins s σ H Q I h
  refine Call_ (ld_blt I hg hm (by decide +kernel : bootBuiltins "list" = some (.type "list")) (PyProof.Rows.callWith_type1 ?_ hs2 rfl))
  rw [hs2]; show wpAny _ _ (spliced ((false, eval (.Call (.Name "reversed" p2) [e] [] pos2) X.env) :: [])) _ _ s
  refine Calls.spliced_cons (Call_ (ld_blt I hg2 hm2 (by decide +kernel : bootBuiltins "reversed" = some (.type "reversed")) (PyProof.Rows.callWith_type1 (thn (ha pos2 pins s σ H _ I h) fun us s1 ⟨vs, H1, I1, r1, q1⟩ => ?_) hs rfl)))
  obtain ⟨a, xs, rfl, hq, q⟩ := q1
  obtain ⟨u, rfl, rx⟩ := vals1 r1
  cases rx
  obtain ⟨its, rv, pl, hz⟩ := I1.list hq
  have hl := rv.length
  have pt : s1.heap.IsList a its.toArray := pl.isList
  have hne : a ≠ s1.heap.objs.size := by obtain ⟨o, e1, _⟩ := pt; exact Nat.ne_of_lt (Heap.lt_size e1)
  refine call_reversed_list pt (Calls.spliced_nil ?_)
  refine Tn.list_lri (items := its.toArray) (l := a) (it := s1.heap.objs.size) (I.ok.hd hc) (Tn.tup_atL pt fun o e1 => Heap.get?_push_of_some _ e1) (by rw [List.size_toArray]; omega) ⟨_, Heap.get?_push_size _ rfl, rfl, rfl⟩ hne fun h' tk' acc' c' kp hS hacc => ?_
  exact lst_fin (s1 := s1) (h2 := s1.heap.push (revObj a ((its.toArray.size : Int) - 1))) I1 _ rfl (fun b o e => Heap.get?_push_of_some _ e) (Heap.size_push ..) rv hz kp hS hacc q
end
end L2
namespace L2
open PySem PySem.Spec PyProof PyProof.Rows
def Its (x : Str) : It := ⟨fun i _ => i < x.length, fun i H y H' => H' = H ∧ ∃ c, x.cps.toList[i]? = some c ∧ y = .str ⟨#[c]⟩, fun i _ => i = x.length⟩
theorem turn_str {P : Program} {w : World} {K : PySem.W.Frag} {tg : Expr} {n : String} (it : Addr) (x : Str) (t : Tok)
    (hn : ["enumerate", "zip", "dict_itemiterator", "dict_reverseitemiterator", "odict_iterator", "itertools.zip_longest", "itertools.pairwise"].contains n = false)
    (W : ∀ A : Around, A.handled = none → Walks P w A it [it] [it] x.cps.size (SignAt x) (fun i h => h.IsStrIter it n x t i))
    (hs : ∀ (A : Around) (i : Nat) (s : Shared) (Q : Value → Shared → Prop) (E : Value → Shared → Prop), s.heap.IsStrIter it n x t i → Q (.ref it) s → wpAny (model P w) A (pyIter (.ref it)) Q E s) :
    Turn P w K tg (Its x) [it] it (fun i h => h.IsStrIter it n x t i) where
  mem := by simp
  obj := fun i h st b hb => by
    have e : b = it := by simpa using hb
    subst e
    obtain ⟨o, e, c, d⟩ := st
    exact ⟨o, e, fun v z => by rw [d] at z; cases z⟩
  keep := fun i h h' st k => let ⟨o, e, r⟩ := st; ⟨o, k it (by simp) o e, r⟩
  item := by
    intro X hP hw hK hc i pins s σ H E I hf st hg
    subst hP hw hK
    obtain ⟨f0, f1, f2, f3, f4, f5⟩ := hf it (by simp)
    refine (W X.A (I.ok.hd hc)).item i s _ _ hg st fun v h' tk hv st' kk => ?_
    obtain ⟨c, u, hcu, rfl⟩ := hv
    have I1 : Inv X pins σ H { s with heap := h', toks := tk } := I.turned (fun b o hb e => kk b o (by simpa using hb) e) f0 f1 f3 f4 f5
    obtain ⟨o, e, cl, d⟩ := id st'
    exact ⟨_, rfl, go_of (s := { s with heap := h', toks := tk }) e cl d hn ⟨.str ⟨#[c]⟩, H, I1, ⟨u, rfl⟩, ⟨rfl, c, by simpa using hcu, rfl⟩, st', fun b hb => (hf b hb).1⟩⟩
  done := by
    intro X hP hw hK hc i pins s σ H E I hf st hg
    subst hP hw hK
    have hg : i = x.length := hg
    subst hg
    obtain ⟨f0, f1, f2, f3, f4, f5⟩ := hf it (by simp)
    exact (W X.A (I.ok.hd hc)).done s _ _ st fun h' tk kk => ⟨rfl, I.turned (fun b o hb e => kk b o (by simpa using hb) e) f0 f1 f3 f4 f5⟩
  self := hs
def iStr (tl : TE) : TI := fun σ H R => tl σ H fun x H1 => ∃ z, x = .str z ∧ R (Its z) H1
section
variable {X : Cx} {tg : Expr}
theorem pi_str {l : Expr} {tl : TE} (hl : PE X l tl) : PI X tg l (iStr tl) := by
  intro pins s σ H R I h
  refine thn (hl pins s σ H _ I h) fun v s1 ⟨x, H1, I1, r1, q1⟩ => ?_
  obtain ⟨z, e, q⟩ := q1
  subst e
  obtain ⟨t, rfl⟩ := r1
  have fp : ∀ b ∈ [s1.heap.objs.size], FpOk X pins H1 b := fun b hb => by
    have e : b = s1.heap.objs.size := by simpa using hb
    subst e
    exact I1.fpOk (Nat.le_refl _) (I1.hok.fresh (Nat.le_refl _))
  cases ha : z.cps.all (· < 128)
  · refine wpAny_pyIter_wide ha ?_
    exact ⟨s1.heap.objs.size, [s1.heap.objs.size], _, _, H1, rfl, I1.kept (t' := s1.toks) fun b o e => Heap.get?_push_of_some _ e, turn_str _ z t (by decide) (fun A hA => Walks.strWide hA _ z t) (fun _ _ _ _ _ st hq => wpAny_pyIter_striter_wide st hq), ⟨_, Heap.get?_push_size _ rfl, rfl, rfl⟩, fp, q⟩
  · refine wpAny_pyIter_ascii ha ?_
    exact ⟨s1.heap.objs.size, [s1.heap.objs.size], _, _, H1, rfl, I1.kept (t' := s1.toks) fun b o e => Heap.get?_push_of_some _ e, turn_str _ z t (by decide) (fun A hA => Walks.strAscii hA _ z t) (fun _ _ _ _ _ st hq => wpAny_pyIter_striter_ascii st hq), ⟨_, Heap.get?_push_size _ rfl, rfl, rfl⟩, fp, q⟩
def rSplit : V → List V → Hp → VK → Prop := fun x vs H Q => ∃ (i j : Str), x = .str i ∧ vs = [.str j] ∧ (j.length == 0) = false ∧ i.length + 2 ≤ sizeLine ∧ ∀ p, H p = none → Q (.ref p) (upd H p (.lst ((Txt.split i j).map V.str)))
theorem strV : ∀ (l : List (Str × Tok)), Vals ((l.map (·.1)).map V.str) (strValues l)
  | [] => .nil
  | p :: r => .cons ⟨p.2, rfl⟩ (strV r)
theorem mt_split : MtM X "str.split" rSplit := by
  intro pins s σ H x vs v us Q I rx rv h
  obtain ⟨i, j, rfl, rfl, hj, hz, q⟩ := h
  obtain ⟨t, rfl⟩ := rx
  obtain ⟨w, rfl, ru⟩ := vals1 rv
  obtain ⟨u, rfl⟩ := ru
  have hn : (Builtin.Str.partsBetween i (Builtin.Str.occurrences i j 0 i.length (i.length + 1)) j.length).length ≤ sizeLine := by
    have e1 := StrLaws.occ_length_le i j 0 i.length (i.length + 1)
    rw [length_partsBetween]; omega
  have fin : ∀ (l : List (Str × Tok)) (k : Nat), l.map (·.1) = Txt.split i j → EP X pins σ Q (.ref s.heap.objs.size) { s with heap := s.heap.push { cls := .type "list", data := .seq (strValues l).toArray }, toks := k } := fun l k e => by
    have hv := strV l
    rw [e] at hv
    exact ⟨.ref _, _, I.lnew (t' := k) hv (by rw [List.length_map]; have := split_le i j; omega), rfl, q _ I.fresh⟩
  cases h1 : (decide (i.length < j.length) || decide (Builtin.Str.strKind i < Builtin.Str.strKind j))
  · cases hf : (Builtin.Str.occurrences i j 0 i.length (i.length + 1)).isEmpty
    · refine call_meets F.slot_str_split (typeIs_str _ _ _) F.entry_str_split (F.args_str_split_2 _ _) (meets_str_split_sep i j t u h1 hj hf (by omega) hn) ?_
      show wants _ _ _ { s with toks := _, heap := s.heap.push { cls := .type "list", data := .seq (strsFrom s.toks (Builtin.Str.partsBetween i (Builtin.Str.occurrences i j 0 i.length (i.length + 1)) j.length)).toArray } }
      rw [strsFrom_eq]
      exact fin (numbered s.toks _) _ ((numbered_texts _ _).trans ((if_neg (ne_true_of_eq_false h1)).trans (if_neg (ne_true_of_eq_false hf))).symm)
    · exact call_meets F.slot_str_split (typeIs_str _ _ _) F.entry_str_split (F.args_str_split_2 _ _) (meets_str_split_not_found i j t u h1 hj hf)
        (fin [(i, t)] s.toks ((if_neg (ne_true_of_eq_false h1)).trans (if_pos hf)).symm)
  · exact call_meets F.slot_str_split (typeIs_str _ _ _) F.entry_str_split (F.args_str_split_2 _ _) (meets_str_split_cannot_occur i j t u h1)
      (fin [(i, t)] s.toks (if_pos h1).symm)
end
theorem comp_str {x : Str} {te : TE} {js : List Nat} {σ : St} {H1 : Hp} {Q : VK} {D : Addr} (f : Nat → V) (hn : x.length ≤ sizeLine)
    (he : ∀ (i : Nat) (c : Nat) (acc : List V) (R : VK), x.cps.toList[i]? = some c → R (f i) (upd H1 D (.lst acc)) → te (some (.str ⟨#[c]⟩) :: js.map fun j => (σ[j]?).getD none) (upd H1 D (.lst acc)) R)
    (hq : Q (.ref D) (upd H1 D (.lst ((List.range x.length).map f)))) : CompW (Its x) (gName 0) tYes te js σ H1 Q D := by
  have hl : (x.cps.toList.map fun c => V.str ⟨#[c]⟩).length = x.length := by simp [Str.length]
  refine comp_seq (xs := x.cps.toList.map fun c => V.str ⟨#[c]⟩) f (by rw [hl]; exact hn) (fun i acc hi => by rw [hl] at hi; exact hi) (fun acc => hl) (fun i acc y H2 hi h => ⟨?_, h.1⟩) (fun i y acc R hy hr => ?_) (by rw [hl]; exact hq)
  · obtain ⟨_, c, hc, rfl⟩ := h
    rw [List.getElem?_map, hc]; rfl
  · rw [List.getElem?_map] at hy
    obtain ⟨c, hc, rfl⟩ := Option.map_eq_some_iff.mp hy
    exact he i c acc R hc hr
end L2
namespace Tn
open PySem L2
def jn (c : Nat) : List (List Nat) → List Nat
  | [] => []
  | [x] => x
  | x :: y :: r => x ++ c :: jn c (y :: r)
theorem cut_first {c : Nat} {a b r s : List Nat} (ha : c ∉ a) (hb : c ∉ b) (h : a ++ c :: r = b ++ c :: s) : a = b ∧ r = s := by
  induction a generalizing b with
  | nil =>
    cases b with
    | nil => exact ⟨rfl, by simpa using h⟩
    | cons y b => simp at h; exact absurd (h.1 ▸ List.Mem.head _) hb
  | cons x a ih =>
    cases b with
    | nil => simp at h; exact absurd (h.1 ▸ List.Mem.head _) ha
    | cons y b =>
      simp at h
      obtain ⟨e1, e2⟩ := ih (fun z => ha (.tail _ z)) (fun z => hb (.tail _ z)) h.2
      exact ⟨by rw [h.1, e1], e2⟩
theorem jn_mem {c : Nat} : ∀ {x y : List Nat} {r : List (List Nat)}, c ∈ jn c (x :: y :: r) := fun {x y r} => by rw [jn]; simp
theorem jn_inj {c : Nat} : ∀ {ps qs : List (List Nat)}, (∀ p ∈ ps, c ∉ p) → (∀ q ∈ qs, c ∉ q) → ps ≠ [] → qs ≠ [] → jn c ps = jn c qs → ps = qs
  | [], _, _, _, h, _, _ => absurd rfl h
  | _ :: _, [], _, _, _, h, _ => absurd rfl h
  | [x], [y], _, _, _, _, h => by rw [jn, jn] at h; rw [h]
  | [x], y :: z :: r, hp, _, _, _, h => by
    have := jn_mem (c := c) (x := y) (y := z) (r := r)
    rw [← h, jn] at this
    exact absurd this (hp x (.head _))
  | y :: z :: r, [x], _, hq, _, _, h => by
    have := jn_mem (c := c) (x := y) (y := z) (r := r)
    rw [h, jn] at this
    exact absurd this (hq x (.head _))
  | a :: b :: r, d :: e :: s, hp, hq, _, _, h => by
    rw [jn, jn] at h
    obtain ⟨e1, e2⟩ := cut_first (hp a (.head _)) (hq d (.head _)) h
    have := jn_inj (fun p h => hp p (.tail _ h)) (fun q h => hq q (.tail _ h)) (by simp) (by simp) e2
    rw [e1, this]
theorem join_jn (c : Nat) : ∀ (ps : List Str), (Str.join ⟨#[c]⟩ ps).cps.toList = jn c (ps.map (·.cps.toList))
  | [] => rfl
  | [x] => rfl
  | x :: y :: r => by
    have ih := join_jn c (y :: r)
    show (x ++ ⟨#[c]⟩ ++ Str.join ⟨#[c]⟩ (y :: r)).cps.toList = _
    rw [str_cat, str_cat, ih]
    simp [jn]
theorem glue_jn (c : Nat) : ∀ (l : List Str) (a : Array Nat), (l.foldl (fun acc p => acc ++ (⟨#[c]⟩ : Str).cps ++ p.cps) a).toList = jn c (a.toList :: l.map (·.cps.toList))
  | [], a => rfl
  | x :: l, a => by
    rw [List.foldl_cons, glue_jn c l]
    cases l with
    | nil => simp [jn]
    | cons y r => simp [jn]
theorem txt_jn (c : Nat) : ∀ (ps : List Str), (Txt.join ⟨#[c]⟩ ps).cps.toList = jn c (ps.map (·.cps.toList))
  | [] => rfl
  | x :: l => glue_jn c l x.cps
theorem split_ne (x : Str) (c : Nat) : Txt.split x ⟨#[c]⟩ ≠ [] := fun h => by
  have := PyProof.Rows.split_pos x ⟨#[c]⟩
  rw [h] at this
  exact absurd this (by decide)
theorem split_join (c : Nat) {ps : List Str} (h0 : ps ≠ []) (hf : ∀ p ∈ ps, c ∉ p.cps.toList) : Txt.split (Txt.join ⟨#[c]⟩ ps) ⟨#[c]⟩ = ps := by
  have e := StrLaws.join_split (Txt.join ⟨#[c]⟩ ps) ⟨#[c]⟩
  have e2 := congrArg (fun z : Str => z.cps.toList) e
  rw [join_jn, txt_jn] at e2
  have e3 := jn_inj (fun p hp => by
    obtain ⟨q, hq, rfl⟩ := List.mem_map.mp hp
    exact StrLaws.split_free _ c q hq) (fun p hp => by
    obtain ⟨q, hq, rfl⟩ := List.mem_map.mp hp
    exact hf q hq) (by simp [split_ne]) (by simpa using h0) e2
  exact (List.map_inj_right fun a b h => str_ext h).mp e3
theorem jn_len (c : Nat) : ∀ (ps : List (List Nat)), (jn c ps).length ≤ (ps.map (·.length)).sum + ps.length
  | [] => Nat.le_refl _
  | [x] => by simp [jn]
  | x :: y :: r => by
    have := jn_len c (y :: r)
    simp [jn] at this ⊢
    omega
end Tn
namespace Tn
open PySem L2
def signs : List Nat := (Str.ofString "abcdefghijklmnopqrstuvwxyz0123456789").cps.toList
def isW (x : Str) : Bool := decide (1 ≤ x.length) && decide (x.length ≤ 8) && x.cps.toList.all fun c => decide (c ∈ signs)
theorem isW_free {x : Str} (h : isW x = true) {c : Nat} (hc : c ∉ signs) : c ∉ x.cps.toList := fun hm => by
  simp only [isW, Bool.and_eq_true, List.all_eq_true, decide_eq_true_eq] at h
  exact hc (h.2 c hm)
theorem isW_len {x : Str} (h : isW x = true) : 1 ≤ x.length ∧ x.length ≤ 8 := by
  simp only [isW, Bool.and_eq_true, decide_eq_true_eq] at h
  exact h.1
theorem isW_ne {x y : Str} (h : isW x = true) {c : Nat} (hy : y = ⟨#[c]⟩) (hc : c ∉ signs) : x ≠ y := fun z => by
  have := isW_free h hc
  rw [z, hy] at this
  exact this (by simp)
theorem isW_lt {x : Str} (h : isW x = true) : x ≠ "<" := isW_ne h (c := 60) (by decide +kernel) (by decide +kernel)
theorem isW_gt {x : Str} (h : isW x = true) : x ≠ ">" := isW_ne h (c := 62) (by decide +kernel) (by decide +kernel)
def seeT : List Str → List Str → List Nat → Option (List Str)
  | [], row, [] => some row
  | [], _, _ :: _ => none
  | p :: ps, row, fs => if p = "<" then seeT ps row (row.length :: fs) else if p = ">" then (match fs with
      | [] => none
      | f :: fs => if row.length < f + 2 then none else seeT ps (row.take f ++ (row.drop f).reverse) fs) else seeT ps (row ++ [p]) fs
def okRow (row : List Str) : Bool := decide (1 ≤ row.length) && decide (row.length ≤ 60) && row.all isW
inductive Seg : List Str → List Str → List (Nat × Nat) → List Nat → Prop
  | nil : Seg [] [] [] []
  | word {x : Str} (h : isW x = true) : Seg [x] [x] [] [0]
  | app {a b wa wb : List Str} {pa pb : List (Nat × Nat)} {ra rb : List Nat} (h1 : Seg a wa pa ra) (h2 : Seg b wb pb rb) : Seg (a ++ b) (wa ++ wb) (pa ++ pb.map fun p => (p.1 + wa.length, p.2 + wa.length)) (ra ++ rb.map (· + wa.length))
  | pair {a w : List Str} {p : List (Nat × Nat)} {r : List Nat} (h : Seg a w p r) (h2 : 2 ≤ w.length) : Seg ("<" :: (a ++ [(">" : Str)])) w ((0, w.length) :: p) r.reverse
theorem Seg.words {a w : List Str} {p : List (Nat × Nat)} {r : List Nat} (h : Seg a w p r) : ∀ x ∈ w, isW x = true := by
  induction h with
  | nil => intro x h; cases h
  | word h => intro x hx; rw [List.mem_singleton.mp hx]; exact h
  | app _ _ i1 i2 => exact fun x hx => (List.mem_append.mp hx).elim (i1 x) (i2 x)
  | pair _ _ ih => exact ih
theorem Seg.perm {a w : List Str} {p : List (Nat × Nat)} {r : List Nat} (h : Seg a w p r) : r.Perm (List.range w.length) := by
  induction h with
  | nil => exact .nil
  | word h => exact .refl _
  | @app a b wa wb pa pb ra rb _ _ i1 i2 =>
    rw [List.length_append, List.range_add]
    refine i1.append ?_
    refine (i2.map _).trans ?_
    exact List.Perm.of_eq (List.map_congr_left fun x _ => Nat.add_comm _ _)
  | pair _ _ ih => exact (List.reverse_perm _).trans ih
theorem Seg.len {a w : List Str} {p : List (Nat × Nat)} {r : List Nat} (h : Seg a w p r) : r.length = w.length := by rw [h.perm.length_eq, List.length_range]
theorem Seg.lt {a w : List Str} {p : List (Nat × Nat)} {r : List Nat} (h : Seg a w p r) : ∀ i ∈ r, i < w.length := fun i hi => List.mem_range.mp (h.perm.mem_iff.mp hi)
theorem Seg.pieces {a w : List Str} {p : List (Nat × Nat)} {r : List Nat} (h : Seg a w p r) : ∀ x ∈ a, x = "<" ∨ x = ">" ∨ isW x = true := by
  induction h with
  | nil => intro x h; cases h
  | word h => intro x hx; rw [List.mem_singleton.mp hx]; exact .inr (.inr h)
  | app _ _ i1 i2 => exact fun x hx => (List.mem_append.mp hx).elim (i1 x) (i2 x)
  | pair _ _ ih =>
    intro x hx
    rcases List.mem_cons.mp hx with e | hx
    · exact .inl e
    · rcases List.mem_append.mp hx with hx | hx
      · exact ih x hx
      · exact .inr (.inl (List.mem_singleton.mp hx))
def rowW (w : List Str) (r : List Nat) : List Str := r.map fun i => w.getD i ""
theorem rowW_app {wa wb : List Str} {ra rb : List Nat} (ha : ∀ i ∈ ra, i < wa.length) : rowW (wa ++ wb) (ra ++ rb.map (· + wa.length)) = rowW wa ra ++ rowW wb rb := by
  unfold rowW
  rw [List.map_append, List.map_map]
  congr 1
  · refine List.map_congr_left fun i hi => ?_
    have := ha i hi
    simp [List.getD, List.getElem?_append_left this]
  · refine List.map_congr_left fun i _ => ?_
    show (wa ++ wb).getD (i + wa.length) "" = _
    simp [List.getD, List.getElem?_append_right (show wa.length ≤ i + wa.length by omega)]
theorem Seg.see {a w : List Str} {p : List (Nat × Nat)} {r : List Nat} (h : Seg a w p r) : ∀ (rest row : List Str) (fs : List Nat), seeT (a ++ rest) row fs = seeT rest (row ++ rowW w r) fs := by
  induction h with
  | nil => intro rest row fs; simp [rowW]
  | @word x h =>
    intro rest row fs
    show seeT (x :: rest) row fs = _
    rw [seeT.eq_def]
    dsimp only
    rw [if_neg (isW_lt h), if_neg (isW_gt h)]
    rfl
  | @app a b wa wb pa pb ra rb h1 h2 i1 i2 =>
    intro rest row fs
    rw [List.append_assoc, i1, i2, rowW_app h1.lt, List.append_assoc]
  | @pair a w p r h h2 ih =>
    intro rest row fs
    show seeT ("<" :: (a ++ [(">" : Str)] ++ rest)) row fs = _
    rw [seeT.eq_def]
    dsimp only
    rw [if_pos rfl, List.append_assoc, ih]
    have hl : (rowW w r).length = w.length := by rw [rowW, List.length_map, h.len]
    show seeT (">" :: rest) _ _ = _
    rw [seeT.eq_def]
    dsimp only
    rw [if_neg (by decide +kernel), if_pos rfl]
    rw [if_neg (by rw [List.length_append]; omega), List.take_append_of_le_length (Nat.le_refl _), List.take_length, List.drop_append_of_le_length (Nat.le_refl _), List.drop_length, List.nil_append]
    congr 2
    unfold rowW
    rw [List.map_reverse]
theorem Seg.seen {a w : List Str} {p : List (Nat × Nat)} {r : List Nat} (h : Seg a w p r) : seeT a [] [] = some (rowW w r) := by
  have := h.see [] [] []
  rw [List.append_nil, List.nil_append] at this
  rw [this, seeT]
theorem Seg.ok {a w : List Str} {p : List (Nat × Nat)} {r : List Nat} (h : Seg a w p r) (h1 : 1 ≤ w.length) (h2 : w.length ≤ 60) : okRow (rowW w r) = true := by
  have hl : (rowW w r).length = w.length := by rw [rowW, List.length_map, h.len]
  unfold okRow
  rw [hl]
  simp only [Bool.and_eq_true, decide_eq_true_eq, List.all_eq_true]
  refine ⟨⟨h1, h2⟩, fun x hx => ?_⟩
  obtain ⟨i, hi, rfl⟩ := List.mem_map.mp hx
  have := h.lt i hi
  refine h.words _ ?_
  rw [List.getD, List.getElem?_eq_getElem this]
  exact List.getElem_mem _
def minIx (row : List Nat) (f n : Nat) : Nat := ((List.range' f n).map fun i => row.idxOf i).foldl Nat.min (row.idxOf f)
def tstep (row : List Nat) (p : Nat × Nat) : List Nat := let at' := minIx row p.1 (p.2 - p.1); row.take at' ++ ((row.drop at').take (p.2 - p.1)).reverse ++ row.drop (at' + (p.2 - p.1))
theorem foldl_min_le : ∀ (l : List Nat) (a : Nat), l.foldl Nat.min a ≤ a ∧ (∀ x ∈ l, l.foldl Nat.min a ≤ x)
  | [], a => ⟨Nat.le_refl _, fun _ h => by cases h⟩
  | y :: l, a => by
    obtain ⟨h1, h2⟩ := foldl_min_le l (Nat.min a y)
    refine ⟨Nat.le_trans h1 (Nat.min_le_left _ _), fun x hx => ?_⟩
    rcases List.mem_cons.mp hx with e | e
    · rw [e]; exact Nat.le_trans h1 (Nat.min_le_right _ _)
    · exact h2 x e
theorem foldl_min_ge {b : Nat} : ∀ (l : List Nat) (a : Nat), b ≤ a → (∀ x ∈ l, b ≤ x) → b ≤ l.foldl Nat.min a
  | [], _, h, _ => h
  | y :: l, a, h, hl => foldl_min_ge l _ (Nat.le_min.mpr ⟨h, hl y (.head _)⟩) fun x hx => hl x (.tail _ hx)
theorem minIx_at {A S B : List Nat} {f n : Nat} (hn : 1 ≤ n) (hS : S.Perm (List.range' f n)) (hA : ∀ i ∈ A, ¬ (f ≤ i ∧ i < f + n)) : minIx (A ++ S ++ B) f n = A.length := by
  have hi : ∀ i, f ≤ i → i < f + n → (A ++ S ++ B).idxOf i = A.length + S.idxOf i := fun i h1 h2 => by
    have hm : i ∈ S := hS.mem_iff.mpr (List.mem_range'_1.mpr ⟨h1, h2⟩)
    rw [List.append_assoc, List.idxOf_append, if_neg (fun z => hA i z ⟨h1, h2⟩), List.idxOf_append, if_pos hm]
    omega
  obtain ⟨x, S', rfl⟩ : ∃ x S', S = x :: S' := by
    cases S with
    | nil => have := hS.length_eq; rw [List.length_range'] at this; simp at this; omega
    | cons x S' => exact ⟨x, S', rfl⟩
  have hx := List.mem_range'_1.mp (hS.mem_iff.mp (List.Mem.head S'))
  refine Nat.le_antisymm ?_ ?_
  · have h1 := (foldl_min_le ((List.range' f n).map fun i => (A ++ (x :: S') ++ B).idxOf i) ((A ++ (x :: S') ++ B).idxOf f)).2 ((A ++ (x :: S') ++ B).idxOf x) (List.mem_map.mpr ⟨x, List.mem_range'_1.mpr hx, rfl⟩)
    rw [hi x hx.1 hx.2] at h1
    unfold minIx
    simp at h1 ⊢
    exact h1
  · refine foldl_min_ge _ _ (by rw [hi f (Nat.le_refl _) (by omega)]; omega) fun y hy => ?_
    obtain ⟨i, hir, rfl⟩ := List.mem_map.mp hy
    have := List.mem_range'_1.mp hir
    rw [hi i this.1 this.2]
    omega
theorem tstep_at {A S B : List Nat} {f n : Nat} (hn : 1 ≤ n) (hS : S.Perm (List.range' f n)) (hA : ∀ i ∈ A, ¬ (f ≤ i ∧ i < f + n)) : tstep (A ++ S ++ B) (f, f + n) = A ++ S.reverse ++ B := by
  have hl : S.length = n := by rw [hS.length_eq, List.length_range']
  have e : A ++ S ++ B = A ++ (S ++ B) := List.append_assoc _ _ _
  unfold tstep
  dsimp only
  rw [Nat.add_sub_cancel_left, minIx_at hn hS hA]
  have h1 : (A ++ S ++ B).take A.length = A := by rw [e, List.take_append_of_le_length (Nat.le_refl _), List.take_length]
  have h2 : (A ++ S ++ B).drop A.length = S ++ B := by rw [e, List.drop_append_of_le_length (Nat.le_refl _), List.drop_length, List.nil_append]
  have h3 : (A ++ S ++ B).drop (A.length + n) = B := by rw [← hl, ← List.length_append, List.drop_append_of_le_length (Nat.le_refl _), List.drop_length, List.nil_append]
  rw [h1, h2, h3, ← hl, List.take_append_of_le_length (Nat.le_refl _), List.take_length]
def shP (k : Nat) (ps : List (Nat × Nat)) : List (Nat × Nat) := ps.map fun p => (p.1 + k, p.2 + k)
theorem shP_sh (a b : Nat) (ps : List (Nat × Nat)) : shP a (shP b ps) = shP (b + a) ps := by
  unfold shP
  rw [List.map_map]
  exact List.map_congr_left fun p _ => by simp [Nat.add_assoc]
theorem Seg.turn {a w : List Str} {p : List (Nat × Nat)} {r : List Nat} (h : Seg a w p r) : ∀ (off : Nat) (A B : List Nat), (∀ i ∈ A, ¬ (off ≤ i ∧ i < off + w.length)) →
    (shP off p).foldl tstep (A ++ List.range' off w.length ++ B) = A ++ r.map (· + off) ++ B ∧ (shP off p).foldl tstep (A ++ (List.range' off w.length).reverse ++ B) = A ++ (r.map (· + off)).reverse ++ B := by
  induction h with
  | nil => intro off A B _; exact ⟨by simp [shP], by simp [shP]⟩
  | word h => intro off A B _; exact ⟨by simp [shP], by simp [shP]⟩
  | @app a b wa wb pa pb ra rb h1 h2 i1 i2 =>
    intro off A B hA
    rw [List.length_append] at hA ⊢
    have e0 : shP off (pa ++ shP wa.length pb) = shP off pa ++ shP (off + wa.length) pb := by
      rw [show shP off (pa ++ shP wa.length pb) = shP off pa ++ shP off (shP wa.length pb) by simp [shP], shP_sh, Nat.add_comm]
    have er : (ra ++ rb.map (· + wa.length)).map (· + off) = ra.map (· + off) ++ rb.map (· + (off + wa.length)) := by
      rw [List.map_append, List.map_map]
      congr 1
      exact List.map_congr_left fun i _ => by simp; omega
    have es : List.range' off (wa.length + wb.length) = List.range' off wa.length ++ List.range' (off + wa.length) wb.length := by
      rw [List.range'_append_1]
    have pr : ∀ i ∈ ra.map (· + off), i < off + wa.length := fun i hi => by
      obtain ⟨j, hj, rfl⟩ := List.mem_map.mp hi
      have := h1.lt j hj
      omega
    show (shP off (pa ++ shP wa.length pb)).foldl tstep _ = _ ∧ (shP off (pa ++ shP wa.length pb)).foldl tstep _ = _
    rw [e0, er, es, List.foldl_append, List.foldl_append]
    constructor
    · rw [show A ++ (List.range' off wa.length ++ List.range' (off + wa.length) wb.length) ++ B = A ++ List.range' off wa.length ++ (List.range' (off + wa.length) wb.length ++ B) by simp only [List.append_assoc],
        (i1 off A _ fun i hi hh => hA i hi (by omega)).1, show A ++ ra.map (· + off) ++ (List.range' (off + wa.length) wb.length ++ B) = (A ++ ra.map (· + off)) ++ List.range' (off + wa.length) wb.length ++ B by simp only [List.append_assoc],
        (i2 (off + wa.length) _ B fun i hi hh => ?_).1]
      · simp only [List.append_assoc]
      · rcases List.mem_append.mp hi with hi | hi
        · exact hA i hi (by omega)
        · have := pr i hi; omega
    · rw [List.reverse_append, List.reverse_append, show A ++ ((List.range' (off + wa.length) wb.length).reverse ++ (List.range' off wa.length).reverse) ++ B = (A ++ (List.range' (off + wa.length) wb.length).reverse) ++ (List.range' off wa.length).reverse ++ B by simp only [List.append_assoc],
        (i1 off _ B fun i hi hh => ?_).2, show A ++ (List.range' (off + wa.length) wb.length).reverse ++ (ra.map (· + off)).reverse ++ B = A ++ (List.range' (off + wa.length) wb.length).reverse ++ ((ra.map (· + off)).reverse ++ B) by simp only [List.append_assoc],
        (i2 (off + wa.length) A _ fun i hi hh => hA i hi (by omega)).2]
      · simp only [List.append_assoc]
      · rcases List.mem_append.mp hi with hi | hi
        · exact hA i hi (by omega)
        · have := List.mem_range'_1.mp (List.mem_reverse.mp hi); omega
  | @pair a w p r h h2 ih =>
    intro off A B hA
    have e0 : shP off ((0, w.length) :: p) = (off, off + w.length) :: shP off p := by simp [shP, Nat.add_comm]
    rw [e0, List.foldl_cons, List.foldl_cons]
    constructor
    · rw [tstep_at (by omega) (.refl _) hA, (ih off A B hA).2, List.map_reverse]
    · rw [tstep_at (by omega) (List.reverse_perm _) hA, List.reverse_reverse, (ih off A B hA).1, List.map_reverse, List.reverse_reverse]
theorem Seg.turned {a w : List Str} {p : List (Nat × Nat)} {r : List Nat} (h : Seg a w p r) : p.foldl tstep (List.range w.length) = r := by
  have := (h.turn 0 [] [] (by simp)).1
  simpa [shP, List.range_eq_range'] using this
end Tn
namespace Tn
open PySem L2
def prT : List Str → List Str → List (Nat × Nat) → List Nat → Option (List Str × List (Nat × Nat))
  | [], W, P, _ => some (W, P)
  | x :: r, W, P, pl => if x = "<" then prT r W (P ++ [(W.length, 0)]) (P.length :: pl) else if x = ">" then (match pl with
      | [] => none
      | k :: pl => if k < P.length then prT r W (P.modify k fun p => (p.1, W.length)) pl else none) else prT r (W ++ [x]) P pl
theorem Seg.two {a w : List Str} {p : List (Nat × Nat)} {r : List Nat} (h : Seg a w p r) : ∀ x ∈ p, x.1 + 2 ≤ x.2 ∧ x.2 ≤ w.length := by
  induction h with
  | nil => intro x h; cases h
  | word h => intro x h; cases h
  | app _ _ i1 i2 =>
    intro x hx
    rw [List.length_append]
    rcases List.mem_append.mp hx with hx | hx
    · have := i1 x hx; omega
    · obtain ⟨y, hy, rfl⟩ := List.mem_map.mp hx
      have := i2 y hy
      dsimp only
      omega
  | pair _ h2 ih =>
    intro x hx
    rcases List.mem_cons.mp hx with rfl | hx
    · dsimp only; omega
    · exact ih x hx
def notMk (x : Str) : Bool := !decide (x = "<") && !decide (x = ">")
theorem Seg.count {a w : List Str} {p : List (Nat × Nat)} {r : List Nat} (h : Seg a w p r) : a.filter notMk = w := by
  induction h with
  | nil => rfl
  | @word x h => rw [List.filter_cons_of_pos (by simp [notMk, isW_lt h, isW_gt h])]; rfl
  | app _ _ i1 i2 => rw [List.filter_append, i1, i2]
  | pair _ _ ih =>
    rw [List.filter_cons_of_neg (by decide +kernel), List.filter_append, ih, List.filter_cons_of_neg (by decide +kernel)]
    simp
inductive Opn : List Str → List Nat → Prop
  | base {a w : List Str} {p : List (Nat × Nat)} {r : List Nat} (h : Seg a w p r) : Opn a [w.length]
  | push {b a w : List Str} {m : Nat} {ms : List Nat} {p : List (Nat × Nat)} {r : List Nat} (o : Opn b (m :: ms)) (h : Seg a w p r) : Opn (b ++ ("<" : Str) :: a) (w.length :: m :: ms)
theorem Opn.seg {b : List Str} {m : Nat} {ms : List Nat} {a w : List Str} {p : List (Nat × Nat)} {r : List Nat} (o : Opn b (m :: ms)) (h : Seg a w p r) : Opn (b ++ a) ((m + w.length) :: ms) := by
  cases o with
  | base h0 => rw [← List.length_append]; exact .base (h0.app h)
  | @push b a0 w0 m' ms' p0 r0 o h0 => rw [List.append_assoc, List.cons_append, ← List.length_append]; exact .push o (h0.app h)
theorem Opn.word {b : List Str} {m : Nat} {ms : List Nat} {x : Str} (o : Opn b (m :: ms)) (h : isW x = true) : Opn (b ++ [x]) ((m + 1) :: ms) := o.seg (.word h)
theorem Opn.close {b : List Str} {m m' : Nat} {ms : List Nat} (o : Opn b (m :: m' :: ms)) (h : 2 ≤ m) : Opn (b ++ [(">" : Str)]) ((m' + m) :: ms) := by
  cases o with
  | @push b a w _ _ p r o hs =>
    have := o.seg (hs.pair h)
    rw [List.append_assoc]
    exact this
theorem Opn.ne {b : List Str} {ms : List Nat} (o : Opn b ms) : ∃ m r, ms = m :: r := by
  cases o with
  | base h => exact ⟨_, _, rfl⟩
  | push o h => exact ⟨_, _, rfl⟩
theorem Opn.count {b : List Str} {ms : List Nat} (o : Opn b ms) : (b.filter notMk).length = ms.sum := by
  induction o with
  | base h => rw [h.count]; simp
  | @push b a w m ms p r o h ih =>
    rw [List.filter_append, List.filter_cons_of_neg (by decide +kernel), List.length_append, ih, h.count, List.sum_cons, List.sum_cons, List.sum_cons]
    omega
theorem Opn.pieces {b : List Str} {ms : List Nat} (o : Opn b ms) : ∀ x ∈ b, x = "<" ∨ x = ">" ∨ isW x = true := by
  induction o with
  | base h => exact h.pieces
  | push o h ih =>
    intro x hx
    rcases List.mem_append.mp hx with hx | hx
    · exact ih x hx
    · rcases List.mem_cons.mp hx with e | hx
      · exact .inl e
      · exact h.pieces x hx
theorem Opn.done {b : List Str} {m : Nat} (o : Opn b [m]) : ∃ w p r, Seg b w p r ∧ w.length = m := by
  cases o with
  | base h => exact ⟨_, _, _, h, rfl⟩
mutual
def mkP : Nest → List Str → List Str
  | .word, ws => [ws.headD ""]
  | .bad, _ => []
  | .knot _ ps, ws => "<" :: (mkPL ps ws ++ [(">" : Str)])
def mkPL : List Nest → List Str → List Str
  | [], _ => []
  | n :: r, ws => mkP n (ws.take (words n)) ++ mkPL r (ws.drop (words n))
end
def wrP : Nest → List Str → List Str
  | .knot true ps, ws => mkPL ps ws
  | n, ws => mkP n ws
mutual
theorem fit_words : ∀ {n : Nest}, fit n = true → 1 ≤ words n
  | .word, _ => Nat.le_refl _
  | .bad, h => by simp [fit] at h
  | .knot k ps, h => by
    simp only [fit, Bool.and_eq_true, decide_eq_true_eq] at h
    have := fitL_words h.2
    simp only [words]
    omega
theorem fitL_words : ∀ {ps : List Nest}, fitL ps = true → ps.length ≤ wordsL ps
  | [], _ => Nat.le_refl _
  | n :: r, h => by
    simp only [fitL, Bool.and_eq_true] at h
    have h1 := fit_words h.1
    have h2 := fitL_words h.2
    simp only [wordsL, List.length_cons]
    omega
end
theorem part_kind {k : Bool} {n : Nest} (h : valid (some k) n = true) : ofK k n = false := by
  cases n with
  | word => rfl
  | bad => rfl
  | knot k2 ps =>
    simp only [valid, Bool.and_eq_true] at h
    show decide (k2 = k) = false
    have h1 := h.1
    simp at h1
    exact decide_eq_false fun z => h1 z.symm
mutual
theorem seg_n : ∀ (n : Nest) (o : Option Bool) (ws : List Str), valid o n = true → fit n = true → ws.length = words n → (∀ x ∈ ws, isW x = true) → ∃ p r, Seg (mkP n ws) ws p r ∧ ∀ f : Int, (r.map fun (i : Nat) => (i : Int) + f) = if ofK true n then (rowN n f).reverse else rowN n f
  | .word, _, ws, _, _, hl, hw => by
    match ws, hl with
    | [x], _ =>
      refine ⟨[], [0], .word (hw x (.head _)), fun f => ?_⟩
      show [((0 : Nat) : Int) + f] = [f]
      simp
  | .bad, _, _, h, _, _, _ => by simp [valid] at h
  | .knot k ps, _, ws, h, hf, hl, hw => by
    simp only [valid, Bool.and_eq_true] at h
    have hf' := hf
    simp only [fit, Bool.and_eq_true, decide_eq_true_eq] at hf
    obtain ⟨p, r, hs, hr⟩ := seg_l ps k ws h.2 hf.2 hl hw
    have h2 : 2 ≤ ws.length := by
      have := fitL_words hf.2
      have e : ws.length = wordsL ps := hl
      omega
    refine ⟨_, _, hs.pair h2, fun f => ?_⟩
    rw [List.map_reverse, hr f]
    cases k with
    | true =>
      show _ = (rowN (.knot true ps) f).reverse
      rw [rowN]
      rfl
    | false =>
      show _ = rowN (.knot false ps) f
      rw [rowN]
      show ((rowsN ps f).map List.reverse).flatten.reverse = (rowsN ps f).reverse.flatten
      rw [List.reverse_flatten, List.map_map]
      congr 1
      rw [show (List.reverse ∘ List.reverse : List Int → List Int) = id from funext fun x => List.reverse_reverse x, List.map_id]
theorem seg_l : ∀ (ps : List Nest) (k : Bool) (ws : List Str), validL k ps = true → fitL ps = true → ws.length = wordsL ps → (∀ x ∈ ws, isW x = true) → ∃ p r, Seg (mkPL ps ws) ws p r ∧ ∀ f : Int, (r.map fun (i : Nat) => (i : Int) + f) = (if k then (rowsN ps f) else (rowsN ps f).map List.reverse).flatten
  | [], k, ws, _, _, hl, _ => by
    have : ws = [] := List.length_eq_zero_iff.mp hl
    subst this
    exact ⟨[], [], .nil, fun f => by cases k <;> rfl⟩
  | n :: r, k, ws, hv, hf, hl, hw => by
    simp only [validL, Bool.and_eq_true] at hv
    simp only [fitL, Bool.and_eq_true] at hf
    simp only [wordsL] at hl
    obtain ⟨p1, r1, s1, e1⟩ := seg_n n (some k) (ws.take (words n)) hv.1 hf.1 (by rw [List.length_take]; omega) fun x hx => hw x (List.mem_of_mem_take hx)
    obtain ⟨p2, r2, s2, e2⟩ := seg_l r k (ws.drop (words n)) hv.2 hf.2 (by rw [List.length_drop]; omega) fun x hx => hw x (List.mem_of_mem_drop hx)
    have hs := s1.app s2
    rw [List.take_append_drop] at hs
    refine ⟨_, _, hs, fun f => ?_⟩
    have hlt : (ws.take (words n)).length = words n := by rw [List.length_take]; omega
    have hrl := row_len f hv.1
    rw [List.map_append, List.map_map, e1 f, rowsN, hlt]
    have e3 : (r2.map ((fun (i : Nat) => (i : Int) + f) ∘ fun x => x + words n)) = (if k then rowsN r (f + (words n : Int)) else (rowsN r (f + (words n : Int))).map List.reverse).flatten := by
      rw [← e2 (f + (words n : Int))]
      refine List.map_congr_left fun i _ => ?_
      show ((i + words n : Nat) : Int) + f = _
      omega
    rw [e3, hrl]
    have hk := part_kind hv.1
    cases k with
    | true => rw [hk]; rfl
    | false =>
      have e4 : (if ofK true n then (rowN n f).reverse else rowN n f) = (rowN n f).reverse := by
        cases n with
        | word => simp [ofK, rowN]
        | bad => simp [rowN]
        | knot k2 ps2 =>
          have : k2 = true := by
            have h0 : decide (k2 = false) = false := hk
            cases k2
            · simp at h0
            · rfl
          subst this
          rfl
      rw [e4]
      rfl
end
theorem seg_wr {n : Nest} {ws : List Str} (hv : valid none n = true) (hf : fit n = true) (hl : ws.length = words n) (hw : ∀ x ∈ ws, isW x = true) : ∃ p r, Seg (wrP n ws) ws p r ∧ (r.map fun (i : Nat) => (i : Int)) = rowN n 0 := by
  have fin : ∀ {p r}, Seg (mkP n ws) ws p r → (∀ f : Int, (r.map fun (i : Nat) => (i : Int) + f) = if ofK true n then (rowN n f).reverse else rowN n f) → ofK true n = false → wrP n ws = mkP n ws → ∃ p r, Seg (wrP n ws) ws p r ∧ (r.map fun (i : Nat) => (i : Int)) = rowN n 0 := fun {p r} hs hr hk he => by
    refine ⟨p, r, he ▸ hs, ?_⟩
    have := hr 0
    rw [hk] at this
    simpa using this
  cases n with
  | bad => simp [valid] at hv
  | word =>
    obtain ⟨p, r, hs, hr⟩ := seg_n _ none ws hv hf hl hw
    exact fin hs hr rfl rfl
  | knot k ps =>
    cases k with
    | false =>
      obtain ⟨p, r, hs, hr⟩ := seg_n _ none ws hv hf hl hw
      exact fin hs hr rfl rfl
    | true =>
      simp only [valid, Bool.and_eq_true] at hv
      simp only [fit, Bool.and_eq_true] at hf
      obtain ⟨p, r, hs, hr⟩ := seg_l ps true ws hv.2 hf.2 hl hw
      refine ⟨p, r, hs, ?_⟩
      have := hr 0
      rw [rowN]
      simpa using this
end Tn
namespace Tn
open PySem L2
theorem range_getD : ∀ (bs : List Bool), (List.range bs.length).map (fun i => V.bl (bs.getD i true)) = bs.map V.bl := fun bs => by
  apply List.ext_getElem
  · simp
  · intro i h1 h2
    simp at h1
    simp [List.getD, h1]
theorem all_getD : ∀ (bs : List Bool), ((List.range bs.length).all fun i => bs.getD i true) = bs.all id := fun bs => by
  rw [Bool.eq_iff_iff]
  simp only [List.all_eq_true, List.mem_range]
  constructor
  · intro h b hb
    obtain ⟨i, hi, rfl⟩ := List.getElem_of_mem hb
    have := h i hi
    simpa [List.getD, hi] using this
  · intro h i hi
    have := h bs[i] (List.getElem_mem hi)
    simpa [List.getD, hi] using this
def wordSigns : Str := "abcdefghijklmnopqrstuvwxyz0123456789"
def spIsWord : Sp := fun vs H Q _ => ∃ x : Str, vs = [.str x] ∧ x.length ≤ 1000 ∧ ∀ H', Same H H' → Q (.bl (isW x)) H'
def spMustRow (K : PySem.W.Frag) : Sp := fun vs H Q _ => ∃ (l : Addr) (ws : List Str), vs = [.ref l] ∧ SqL K H l (ws.map V.str) ∧ okRow ws = true ∧ ∀ H', Same H H' → Q .non H'
def spTurnedF : Sp := fun vs H Q _ => ∃ (l : Addr) (us : List V) (f : Nat), vs = [.ref l, .int f] ∧ H l = some (.lst us) ∧ us.length ≤ 1000 ∧ f + 2 ≤ us.length ∧ ∀ (p : Addr) (H' : Hp), H p = none → H' p = some (.lst (us.take f ++ (us.drop f).reverse)) → Same H H' → Q (.ref p) H'
def spSeenW : Sp := fun vs H Q _ => ∃ (x : Str) (row : List Str), vs = [.str x] ∧ x.length ≤ 10000 ∧ (Txt.split x " ").length ≤ 900 ∧ seeT (Txt.split x " ") [] [] = some row ∧ okRow row = true ∧ ∀ (l : Addr) (H' : Hp), H l = none → H' l = some (.lst (row.map V.str)) → Same H H' → Q (.ref l) H'
end Tn
namespace Tn
open PySem L2
theorem mkPL_take {ps : List Nest} {ws : List Str} {i : Nat} {n : Nest} (h : ps[i]? = some n) : mkPL (ps.take (i + 1)) ws = mkPL (ps.take i) ws ++ mkP n ((ws.drop (ahead ps i)).take (words n)) := by
  have app : ∀ (A B : List Nest) (ws : List Str), mkPL (A ++ B) ws = mkPL A ws ++ mkPL B (ws.drop (wordsL A)) := fun A => by
    induction A with
    | nil => intro B ws; simp [mkPL, wordsL]
    | cons a A ih =>
      intro B ws
      rw [List.cons_append, mkPL, ih, mkPL, List.append_assoc, List.drop_drop, wordsL]
  rw [List.take_succ, h, app]
  simp [mkPL, ahead]
mutual
theorem mkP_len : ∀ {n : Nest} (ws : List Str), fit n = true → (mkP n ws).length + 2 ≤ 3 * words n
  | .word, ws, _ => by simp [mkP, words]
  | .bad, _, h => by simp [fit] at h
  | .knot k ps, ws, h => by
    simp only [fit, Bool.and_eq_true, decide_eq_true_eq] at h
    have := mkPL_len ws h.2
    simp only [mkP, words, List.length_cons, List.length_append, List.length_nil]
    omega
theorem mkPL_len : ∀ {ps : List Nest} (ws : List Str), fitL ps = true → (mkPL ps ws).length + 2 * ps.length ≤ 3 * wordsL ps
  | [], _, _ => by simp [mkPL]
  | n :: r, ws, h => by
    simp only [fitL, Bool.and_eq_true] at h
    have h1 := mkP_len (ws.take (words n)) h.1
    have h2 := mkPL_len (ws.drop (words n)) h.2
    simp only [mkPL, wordsL, List.length_append, List.length_cons]
    omega
end
theorem fitL_take : ∀ {ps : List Nest} (i : Nat), fitL ps = true → fitL (ps.take i) = true
  | [], i, _ => by simp [fitL]
  | n :: r, 0, _ => by simp [fitL]
  | n :: r, i + 1, h => by
    simp only [fitL, Bool.and_eq_true, List.take_succ_cons] at h ⊢
    exact ⟨h.1, fitL_take i h.2⟩
theorem wrP_len {n : Nest} (ws : List Str) (h : fit n = true) : (wrP n ws).length + 2 ≤ 3 * words n := by
  cases n with
  | word => exact mkP_len ws h
  | bad => exact mkP_len ws h
  | knot k ps =>
    cases k with
    | false => exact mkP_len ws h
    | true =>
      simp only [fit, Bool.and_eq_true, decide_eq_true_eq] at h
      have := mkPL_len ws h.2
      simp only [wrP, words]
      omega
theorem cut_in (x y : V) (xs : List V) : cutV (x :: (xs ++ [y])) (some 1) (some (-1)) = xs := by
  have hl : (x :: (xs ++ [y])).length = xs.length + 2 := by simp
  have e1 : HT.sIx (xs.length + 2) 0 (some 1) = 1 := by
    rw [show (some (1 : Int)) = some ((1 : Nat) : Int) from rfl, HT.sIx_nat]
    omega
  have e2 : HT.sIx (xs.length + 2) (xs.length + 2) (some (-1)) = xs.length + 1 := by
    show (if (-1 : Int) < 0 then ((-1 : Int) + ((xs.length + 2 : Nat) : Int)).toNat else min (-1 : Int).toNat (xs.length + 2)) = xs.length + 1
    rw [if_pos (by decide)]
    omega
  unfold cutV
  rw [hl, e1, e2]
  simp
theorem wrP_no {n : Nest} (ws : List Str) (h : ofK true n = false) : wrP n ws = mkP n ws := by
  cases n with
  | word => rfl
  | bad => rfl
  | knot k ps =>
    cases k with
    | false => rfl
    | true => exact absurd h (by simp [ofK])
def pcs (xs : List Str) : Prop := ∀ x ∈ xs, x = "<" ∨ x = ">" ∨ isW x = true
theorem pcs_len : ∀ {xs : List Str}, pcs xs → (xs.map (·.length)).sum ≤ 8 * xs.length
  | [], _ => by simp
  | x :: r, h => by
    have h1 := pcs_len (xs := r) fun y hy => h y (.tail _ hy)
    have h2 : x.length ≤ 8 := by
      rcases h x (.head _) with e | e | e
      · rw [e]; decide +kernel
      · rw [e]; decide +kernel
      · exact (isW_len e).2
    simp only [List.map_cons, List.sum_cons, List.length_cons]
    omega
theorem blank_eq : (" " : Str) = ⟨#[32]⟩ := by decide +kernel
theorem pcs_free {xs : List Str} (h : pcs xs) : ∀ x ∈ xs, 32 ∉ x.cps.toList := fun x hx => by
  rcases h x hx with e | e | e
  · rw [e]; decide +kernel
  · rw [e]; decide +kernel
  · exact isW_free e (by decide +kernel)
theorem pcs_split {xs : List Str} (h0 : xs ≠ []) (h : pcs xs) : Txt.split (Txt.join " " xs) " " = xs := by
  rw [blank_eq]
  exact split_join 32 h0 (pcs_free h)
theorem pcs_join {xs : List Str} (h : pcs xs) : (Txt.join " " xs).length ≤ 9 * xs.length := by
  have h1 := pcs_len h
  have h2 := jn_len 32 (xs.map (·.cps.toList))
  rw [← txt_jn, ← blank_eq, List.map_map, List.length_map] at h2
  have e : (xs.map ((·.length) ∘ fun x : Str => x.cps.toList)) = xs.map (·.length) := List.map_congr_left fun x _ => by simp [Str.length]
  rw [e] at h2
  have e2 : (Txt.join " " xs).length = (Txt.join " " xs).cps.toList.length := by simp [Str.length]
  omega
def spMarked (K : PySem.W.Frag) (d : Nat) : Sp := fun vs H Q _ => ∃ (v : V) (l : Addr) (n : Nest) (o : Option Bool) (ws : List Str), vs = [v, .ref l] ∧ NestAt K H n v ∧ valid o n = true ∧ depthN n < d ∧ words n ≤ 60 ∧ SqL K H l (ws.map V.str) ∧ ws.length = words n ∧ (∀ x ∈ ws, isW x = true) ∧
  ∀ (p : Addr) (H' : Hp), H p = none → H' p = some (.lst ((mkP n ws).map V.str)) → Same H H' → Q (.ref p) H'
def spWrite (K : PySem.W.Frag) : Sp := fun vs H Q _ => ∃ (v : V) (l : Addr) (n : Nest) (ws : List Str), vs = [.ref l, v] ∧ NestAt K H n v ∧ okN n = true ∧ SqL K H l (ws.map V.str) ∧ ws.length = words n ∧ (∀ x ∈ ws, isW x = true) ∧
  ∀ (H' : Hp), Same H H' → Q (.str (Txt.join " " (wrP n ws))) H'
end Tn
namespace Tn
open PySem L2
def spWord71 : Sp := fun vs H Q _ => ∃ c : Int, vs = [.int c] ∧ ∀ x : Str, isW x = true → Q (.str x) H
def spWords71 (K : PySem.W.Frag) : Sp := fun vs H Q _ => ∃ (a : Addr) (ns : List Int) (m : Nat), vs = [.ref a, .int (m : Int)] ∧ SqL K H a (ns.map V.int) ∧ ns.length ≤ 63 ∧ m ≤ 60 ∧
  ∀ (p : Addr) (ws : List Str) (H' : Hp), H p = none → H' p = some (.lst (ws.map V.str)) → ws.length = m → (∀ x ∈ ws, isW x = true) → Same H H' → Q (.ref p) H'
def BtA (K : PySem.W.Frag) (H : Hp) : List (Option (Nest × Bool)) → List V → Prop
  | [], us => us = []
  | some p :: r, us => ∃ t v ur, us = .ref t :: ur ∧ H t = some (.tup [v, .bl p.2]) ∧ NestAt K H p.1 v ∧ BtA K H r ur
  | none :: r, us => ∃ t ur, us = .ref t :: ur ∧ H t = some (.tup [.str ">", .bl true]) ∧ BtA K H r ur
theorem BtA.mono {K : PySem.W.Frag} {H H' : Hp} (s : Same H H') : ∀ {is : List (Option (Nest × Bool))} {us : List V}, BtA K H is us → BtA K H' is us
  | [], _, h => h
  | some _ :: _, _, ⟨t, v, ur, e, h0, h1, h2⟩ => ⟨t, v, ur, e, s _ _ h0, h1.mono s, BtA.mono s h2⟩
  | none :: _, _, ⟨t, ur, e, h0, h2⟩ => ⟨t, ur, e, s _ _ h0, BtA.mono s h2⟩
theorem BtA.updL {K : PySem.W.Frag} {H : Hp} {c : Addr} {ws vs : List V} (e : H c = some (.lst ws)) : ∀ {is : List (Option (Nest × Bool))} {us : List V}, BtA K H is us → BtA K (upd H c (.lst vs)) is us
  | [], _, h => h
  | some _ :: _, _, ⟨t, v, ur, e0, h0, h1, h2⟩ => ⟨t, v, ur, e0, by rw [upd_ne (ne_of h0 e (by intro z; cases z))]; exact h0, NestAt.updL e h1, BtA.updL e h2⟩
  | none :: _, _, ⟨t, ur, e0, h0, h2⟩ => ⟨t, ur, e0, by rw [upd_ne (ne_of h0 e (by intro z; cases z))]; exact h0, BtA.updL e h2⟩
theorem BtA.len {K : PySem.W.Frag} {H : Hp} : ∀ {is : List (Option (Nest × Bool))} {us : List V}, BtA K H is us → is.length = us.length
  | [], _, h => by have h : _ = [] := h; subst h; rfl
  | some _ :: _, _, ⟨_, _, _, e, _, _, h2⟩ => by subst e; simp [BtA.len h2]
  | none :: _, _, ⟨_, _, e, _, h2⟩ => by subst e; simp [BtA.len h2]
def btP : Nest × Bool → List Str → List Str
  | (.knot _ ps, true), ws => mkPL ps ws
  | (n, _), ws => mkP n ws
def btPs : List (Option (Nest × Bool)) → List Str → List Str
  | [], _ => []
  | none :: r, ws => ">" :: btPs r ws
  | some p :: r, ws => btP p (ws.take (words p.1)) ++ btPs r (ws.drop (words p.1))
def btW : List (Option (Nest × Bool)) → Nat
  | [] => 0
  | none :: r => btW r
  | some p :: r => words p.1 + btW r
def btS : List (Option (Nest × Bool)) → Nat
  | [] => 0
  | some p :: r => 2 * sizeN p.1 + btS r
  | none :: r => 1 + btS r
def btN (ps : List Nest) : List (Option (Nest × Bool)) := ps.map fun p => some (p, false)
def spWritten71 (K : PySem.W.Frag) : Sp := fun vs H Q _ => ∃ (v : V) (l : Addr) (n : Nest) (ws : List Str), vs = [.ref l, v] ∧ NestAt K H n v ∧ okN n = true ∧ SqL K H l (ws.map V.str) ∧ ws.length = words n ∧
  ∀ (p : Addr) (H' : Hp), H p = none → H' p = some (.lst ((wrP n ws).map V.str)) → Same H H' → Q (.ref p) H'
def topB : Nest → Bool
  | .knot k _ => k
  | _ => true
def btV (is : List (Option (Nest × Bool))) : Prop := ∀ p, some p ∈ is → ∃ o, valid o p.1 = true
end Tn
namespace Tn
open PySem L2
def spLMarked (K : PySem.W.Frag) : Sp := fun vs H Q _ => ∃ (a : Addr) (ns : List Int), vs = [.ref a, .int 2, .int 60] ∧ SqL K H a (ns.map V.int) ∧ ns.length ≤ 63 ∧
  ∀ (p : Addr) (xs w : List Str) (ps : List (Nat × Nat)) (r : List Nat) (H' : Hp), H p = none → H' p = some (.lst (xs.map V.str)) → Seg xs w ps r → 1 ≤ w.length → w.length ≤ 60 → xs.length ≤ 400 → Same H H' → Q (.ref p) H'
def spLTurned (K : PySem.W.Frag) : Sp := fun vs H Q _ => ∃ (a : Addr) (xs w : List Str) (ps : List (Nat × Nat)) (r : List Nat), vs = [.ref a] ∧ SqL K H a (xs.map V.str) ∧ xs.length ≤ 400 ∧ Seg xs w ps r ∧ w.length ≤ 60 ∧
  ∀ (p : Addr) (H' : Hp), H' p = some (.lst ((rowW w r).map V.str)) → Same H H' → Q (.ref p) H'
def spLSeen (K : PySem.W.Frag) : Sp := fun vs H Q _ => ∃ (x : Str) (row : List Str) (l : Addr), vs = [.str x, .ref l] ∧ x.length ≤ 10000 ∧ (Txt.split x " ").length ≤ 900 ∧ seeT (Txt.split x " ") [] [] = some row ∧ okRow row = true ∧ SqL K H l (row.map V.str) ∧ ∀ H', Same H H' → Q (.bl true) H'
end Tn
namespace Tn
open PySem L2
def nv (l : List Nat) : List V := l.map fun (n : Nat) => V.int n
theorem ix_last (xs : List V) (v : V) : ixN (xs ++ [v]).length (-1) = some xs.length := by
  unfold ixN
  rw [if_neg (by decide), if_pos (by simp; omega)]
  rw [List.length_append, List.length_singleton]
  congr 1
  omega
theorem set_last (xs : List V) (v u : V) : (xs ++ [v]).set xs.length u = xs ++ [u] := by
  induction xs with
  | nil => rfl
  | cons x r ih => simp [ih]
theorem nv_len (l : List Nat) : (nv l).length = l.length := by simp [nv]
end Tn
namespace Tn
open PySem L2
def idxs (row : List Nat) (f n : Nat) : List Int := (List.range n).map fun i => ((row.idxOf (f + i) : Nat) : Int)
def pv2 (p : Nat × Nat) : List V := [V.int (p.1 : Int), V.int (p.2 : Int)]
theorem Seg.ne {a w : List Str} {p : List (Nat × Nat)} {r : List Nat} (h : Seg a w p r) (h1 : 1 ≤ w.length) : a ≠ [] := fun z => by
  have := h.count
  rw [z] at this
  rw [← this] at h1
  exact absurd h1 (by decide)
theorem Seg.text {a w : List Str} {p : List (Nat × Nat)} {r : List Nat} (h : Seg a w p r) (h1 : 1 ≤ w.length) (h2 : a.length ≤ 400) : (Txt.join " " a).length ≤ 10000 ∧ (Txt.split (Txt.join " " a) " ").length ≤ 900 ∧ seeT (Txt.split (Txt.join " " a) " ") [] [] = some (rowW w r) := by
  have hj := pcs_join h.pieces
  rw [pcs_split (h.ne h1) h.pieces]
  exact ⟨by omega, by omega, h.seen⟩
theorem Seg.joins {a w : List Str} {p : List (Nat × Nat)} {r : List Nat} (h : Seg a w p r) (h2 : a.length ≤ 400) : (a.map (·.length)).sum + a.length * (" " : Str).length ≤ 16777216 := by
  have hj := pcs_len h.pieces
  rw [show (" " : Str).length = 1 by decide +kernel]
  omega
theorem eqKs_strs : ∀ (xs : List Str), eqKs (xs.map V.str) (xs.map V.str) = some true
  | [] => rfl
  | x :: xs => by
    show ((eqK (.str x) (.str x)).bind fun b => (eqKs (xs.map V.str) (xs.map V.str)).map fun c => b && c) = _
    rw [eqKs_strs xs]
    simp [eqK, flatV, eqV]
theorem sign_at {j : Int} (h0 : 0 ≤ j) (h1 : j < 36) : ∃ c, atI wordSigns.cps.toList j = some c ∧ c ∈ signs := by
  obtain ⟨n, rfl⟩ : ∃ n : Nat, j = (n : Int) := ⟨j.toNat, by omega⟩
  have hl : signs.length = 36 := by decide +kernel
  have hn : n < signs.length := by omega
  refine ⟨signs[n], ?_, List.getElem_mem hn⟩
  exact atI_nat (List.getElem?_eq_getElem hn)
end Tn
namespace Tn
open PySem L2
mutual
def kN : Nest → Nat
  | .word => 0
  | .bad => 0
  | .knot _ ps => 1 + kL ps
def kL : List Nest → Nat
  | [] => 0
  | n :: r => kN n + kL r
end
theorem kL_app : ∀ (a b : List Nest), kL (a ++ b) = kL a + kL b
  | [], b => by simp [kL]
  | n :: a, b => by simp only [List.cons_append, kL, kL_app a b]; omega
theorem depthL_app : ∀ (a b : List Nest), depthL (a ++ b) = Nat.max (depthL a) (depthL b)
  | [], b => by simp [depthL]
  | n :: a, b => by simp only [List.cons_append, depthL, depthL_app a b]; exact (Nat.max_assoc _ _ _).symm
theorem fitL_app : ∀ (a b : List Nest), fitL (a ++ b) = (fitL a && fitL b)
  | [], b => by simp [fitL]
  | n :: a, b => by simp only [List.cons_append, fitL, fitL_app a b, Bool.and_assoc]
mutual
theorem mir_k : ∀ n : Nest, kN (mirN n) = kN n
  | .word => rfl
  | .knot k ps => by simp only [mirN, kN, mir_kL ps]
  | .bad => rfl
theorem mir_kL : ∀ ps : List Nest, kL (mirL ps) = kL ps
  | [] => rfl
  | n :: r => by simp only [mirL, kL, mir_k n, mir_kL r]
end
theorem mirL_len (ps : List Nest) : (mirL ps).length = ps.length := by rw [mirL_map, List.length_map]
mutual
theorem mir_fit : ∀ n : Nest, fit (mirN n) = fit n
  | .word => rfl
  | .knot k ps => by simp only [mirN, fit, mirL_len, mir_fitL ps]
  | .bad => rfl
theorem mir_fitL : ∀ ps : List Nest, fitL (mirL ps) = fitL ps
  | [] => rfl
  | n :: r => by simp only [mirL, fitL, mir_fit n, mir_fitL r]
end
def wrK (n : Nest) : Nat := kL (partsOf true n)
def wrD (n : Nest) : Nat := depthL (partsOf true n)
theorem wr_word : wrK .word = 0 ∧ wrD .word = 0 := ⟨rfl, rfl⟩
theorem wr_true (ps : List Nest) : wrK (.knot true ps) = kL ps ∧ wrD (.knot true ps) = depthL ps := ⟨rfl, rfl⟩
theorem wr_false (ps : List Nest) : wrK (.knot false ps) = 1 + kL ps ∧ wrD (.knot false ps) = 1 + depthL ps := by
  unfold wrK wrD partsOf
  simp [kL, kN, depthL, depthN]
def depZ : List Str → Int → Int → Int
  | [], _, m => m
  | x :: r, h, m => let h' := h + (if x = "<" then 1 else 0) - (if x = ">" then 1 else 0); depZ r h' (max m h')
theorem depZ_word {x : Str} (hx : isW x = true) (r : List Str) {h m : Int} (hm : h ≤ m) : depZ (x :: r) h m = depZ r h m := by
  rw [depZ]
  simp only [isW_lt hx, isW_gt hx, if_false]
  rw [show h + 0 - 0 = h by omega, Int.max_eq_left hm]
theorem depZ_open (r : List Str) {h m : Int} : depZ (("<" : Str) :: r) h m = depZ r (h + 1) (max m (h + 1)) := by
  rw [depZ, if_pos rfl, if_neg (by decide +kernel), Int.sub_zero]
theorem depZ_close (r : List Str) {h m : Int} : depZ ((">" : Str) :: r) h m = depZ r (h - 1) (max m (h - 1)) := by
  rw [depZ, if_neg (by decide +kernel), if_pos rfl, Int.add_zero]
theorem join_nest {n1 n2 : Nest} (v1 : valid none n1 = true) (v2 : valid none n2 = true) (f1 : fit n1 = true) (f2 : fit n2 = true) : ∃ n, valid none n = true ∧ fit n = true ∧ words n = words n1 + words n2 ∧ rowN n 0 = rowN n1 0 ++ rowN n2 (words n1 : Int) ∧ wrK n = wrK n1 + wrK n2 ∧ wrD n = Nat.max (wrD n1) (wrD n2) := by
  have hv := joinL_valid (k := true) (qs := [n1, n2]) fun q hq => by
    rcases List.mem_cons.mp hq with rfl | hq
    · exact v1
    · rw [List.mem_singleton.mp hq]; exact v2
  have hj := join_rows (k := true) [n1, n2] 0
  have fp : ∀ {n : Nest}, fit n = true → fitL (partsOf true n) = true ∧ 1 ≤ (partsOf true n).length := fun {n} h => by
    cases n with
    | word => exact ⟨rfl, Nat.le_refl _⟩
    | bad => simp [fit] at h
    | knot k ps =>
      cases k with
      | true =>
        simp only [fit, Bool.and_eq_true, decide_eq_true_eq] at h
        exact ⟨h.2, show 1 ≤ ps.length by omega⟩
      | false => exact ⟨by simp [partsOf, fitL, h], by simp [partsOf]⟩
  have e : [n1, n2].flatMap (partsOf true) = partsOf true n1 ++ partsOf true n2 := by simp
  rw [e] at hv hj
  refine ⟨.knot true (partsOf true n1 ++ partsOf true n2), ?_, ?_, ?_, ?_, ?_, ?_⟩
  · simp [valid, hv.1]
  · have a1 := fp f1
    have a2 := fp f2
    rw [fit, fitL_app, a1.1, a2.1]
    simp
    omega
  · rw [words, hv.2]
    simp [wordsL]
  · rw [row_seen, hj]
    simp [seenB, rowsN, row_len 0 v1]
  · rw [(wr_true _).1, kL_app]; rfl
  · rw [(wr_true _).2, depthL_app]; rfl
theorem Seg.least {a w : List Str} {p : List (Nat × Nat)} {r : List Nat} (h : Seg a w p r) : ∃ d : Nat, (∀ (rest : List Str) (h m : Int), h ≤ m → depZ (a ++ rest) h m = depZ rest h (max m (h + d))) ∧
    ((w = [] ∧ a = [] ∧ r = []) ∨ ∃ n, valid none n = true ∧ fit n = true ∧ Tn.words n = w.length ∧ rowN n 0 = (r.map fun (i : Nat) => (i : Int)) ∧ wrK n ≤ a.count ("<" : Str) ∧ wrD n ≤ d) := by
  induction h with
  | nil => exact ⟨0, fun rest h m hm => by rw [List.nil_append, show h + ((0 : Nat) : Int) = h by omega, Int.max_eq_left hm], .inl ⟨rfl, rfl, rfl⟩⟩
  | @word x hx =>
    refine ⟨0, fun rest h m hm => ?_, .inr ⟨.word, rfl, rfl, rfl, rfl, Nat.zero_le _, Nat.zero_le _⟩⟩
    rw [show h + ((0 : Nat) : Int) = h by omega, Int.max_eq_left hm]
    exact depZ_word hx rest hm
  | @app a b wa wb pa pb ra rb h1 h2 i1 i2 =>
    obtain ⟨d1, g1, c1⟩ := i1
    obtain ⟨d2, g2, c2⟩ := i2
    refine ⟨Nat.max d1 d2, fun rest h m hm => ?_, ?_⟩
    · rw [List.append_assoc, g1 _ _ _ hm, g2 _ _ _ (by omega)]
      congr 1
      have : ((Nat.max d1 d2 : Nat) : Int) = max (d1 : Int) (d2 : Int) := by
        show ((max d1 d2 : Nat) : Int) = _
        omega
      rw [this]
      omega
    · rcases c1 with ⟨rfl, rfl, rfl⟩ | ⟨n1, v1, f1, w1, r1, k1, e1⟩
      · rcases c2 with ⟨rfl, rfl, rfl⟩ | ⟨n2, v2, f2, w2, r2, k2, e2⟩
        · exact .inl ⟨rfl, rfl, rfl⟩
        · refine .inr ⟨n2, v2, f2, by simpa using w2, ?_, by simpa using k2, Nat.le_trans e2 (Nat.le_max_right _ _)⟩
          rw [r2]
          simp
      · rcases c2 with ⟨rfl, rfl, rfl⟩ | ⟨n2, v2, f2, w2, r2, k2, e2⟩
        · refine .inr ⟨n1, v1, f1, by simpa using w1, ?_, by simpa using k1, Nat.le_trans e1 (Nat.le_max_left _ _)⟩
          rw [r1]
          simp
        · obtain ⟨n, v, f, w, rr, k, e⟩ := join_nest v1 v2 f1 f2
          refine .inr ⟨n, v, f, by rw [w, w1, w2, List.length_append], ?_, ?_, ?_⟩
          · have hs := row_shift n2 0 (Tn.words n1 : Int)
            rw [Int.zero_add] at hs
            rw [rr, hs, r1, r2, List.map_append, List.map_map, List.map_map, w1]
            first
              | rfl
              | (congr 1; exact List.map_congr_left fun i _ => by simp)
          · rw [k, List.count_append]
            omega
          · rw [e]
            exact Nat.max_le.mpr ⟨Nat.le_trans e1 (Nat.le_max_left _ _), Nat.le_trans e2 (Nat.le_max_right _ _)⟩
  | @pair a w p r h h2 ih =>
    obtain ⟨d, g, c⟩ := ih
    refine ⟨d + 1, fun rest h m hm => ?_, ?_⟩
    · show depZ ("<" :: (a ++ [(">" : Str)] ++ rest)) h m = _
      rw [depZ_open, List.append_assoc, g _ _ _ (by omega)]
      show depZ (">" :: rest) _ _ = _
      rw [depZ_close]
      congr 1
      · omega
      · omega
    · rcases c with ⟨rfl, _, _⟩ | ⟨n, v, f, w', rr, k, e⟩
      · simp at h2
      · refine .inr ⟨mirN n, ?_, by rw [mir_fit]; exact f, by rw [mir_words]; exact w', by rw [mir_row, rr, List.map_reverse], ?_, ?_⟩
        · have := mir_valid n none
          rw [show (Option.map not none : Option Bool) = none from rfl] at this
          rw [this]; exact v
        · have hc : (("<" : Str) :: (a ++ [(">" : Str)])).count ("<" : Str) = a.count ("<" : Str) + 1 := by
            rw [List.count_cons_self, List.count_append]
            rw [show [(">" : Str)].count ("<" : Str) = 0 by decide +kernel]
          rw [hc]
          cases n with
          | word => simp [mirN, wr_word.1]
          | bad => simp [valid] at v
          | knot k2 ps =>
            cases k2 with
            | true =>
              rw [mirN, Bool.not_true, (wr_false _).1, mir_kL]
              rw [(wr_true _).1] at k
              omega
            | false =>
              rw [mirN, Bool.not_false, (wr_true _).1, mir_kL]
              rw [(wr_false _).1] at k
              omega
        · cases n with
          | word => simp [mirN, wr_word.2]
          | bad => simp [valid] at v
          | knot k2 ps =>
            cases k2 with
            | true =>
              rw [mirN, Bool.not_true, (wr_false _).2, mir_depthL]
              rw [(wr_true _).2] at e
              omega
            | false =>
              rw [mirN, Bool.not_false, (wr_true _).2, mir_depthL]
              rw [(wr_false _).2] at e
              omega
theorem count_word {x : Str} (hx : isW x = true) : [x].count ("<" : Str) = 0 := by
  rw [List.count_singleton]
  simp [isW_lt hx]
mutual
theorem mk_cnt : ∀ {n : Nest} {ws : List Str}, fit n = true → ws.length = words n → (∀ x ∈ ws, isW x = true) → (mkP n ws).count ("<" : Str) = kN n ∧ ∀ (rest : List Str) (h m : Int), h ≤ m → depZ (mkP n ws ++ rest) h m = depZ rest h (max m (h + depthN n))
  | .word, ws, _, hl, hw => by
    match ws, hl with
    | [x], _ =>
      have hx := hw x (.head _)
      refine ⟨count_word hx, fun rest h m hm => ?_⟩
      show depZ (x :: rest) h m = depZ rest h (max m (h + ((0 : Nat) : Int)))
      rw [depZ_word hx rest hm, show h + ((0 : Nat) : Int) = h by omega, Int.max_eq_left hm]
  | .bad, _, hf, _, _ => by simp [fit] at hf
  | .knot k ps, ws, hf, hl, hw => by
    simp only [fit, Bool.and_eq_true] at hf
    obtain ⟨g1, g2⟩ := mkL_cnt hf.2 hl hw
    refine ⟨?_, fun rest h m hm => ?_⟩
    · rw [mkP, List.count_cons_self, List.count_append, g1, kN, show [(">" : Str)].count ("<" : Str) = 0 by decide +kernel]
      omega
    · show depZ ("<" :: (mkPL ps ws ++ [(">" : Str)] ++ rest)) h m = _
      rw [depZ_open, List.append_assoc, g2 _ _ _ (by omega)]
      show depZ (">" :: rest) _ _ = _
      rw [depZ_close, depthN]
      congr 1
      · omega
      · omega
theorem mkL_cnt : ∀ {ps : List Nest} {ws : List Str}, fitL ps = true → ws.length = wordsL ps → (∀ x ∈ ws, isW x = true) → (mkPL ps ws).count ("<" : Str) = kL ps ∧ ∀ (rest : List Str) (h m : Int), h ≤ m → depZ (mkPL ps ws ++ rest) h m = depZ rest h (max m (h + depthL ps))
  | [], ws, _, _, _ => ⟨rfl, fun rest h m hm => by
      show depZ rest h m = depZ rest h (max m (h + ((0 : Nat) : Int)))
      rw [show h + ((0 : Nat) : Int) = h by omega, Int.max_eq_left hm]⟩
  | n :: r, ws, hf, hl, hw => by
    simp only [fitL, Bool.and_eq_true] at hf
    rw [wordsL] at hl
    obtain ⟨a1, a2⟩ := mk_cnt (ws := ws.take (words n)) hf.1 (by rw [List.length_take]; omega) fun x hx => hw x (List.mem_of_mem_take hx)
    obtain ⟨b1, b2⟩ := mkL_cnt (ws := ws.drop (words n)) hf.2 (by rw [List.length_drop]; omega) fun x hx => hw x (List.mem_of_mem_drop hx)
    refine ⟨by rw [mkPL, List.count_append, a1, b1, kL], fun rest h m hm => ?_⟩
    rw [mkPL, List.append_assoc, a2 _ _ _ hm, b2 _ _ _ (by omega), depthL]
    congr 1
    have : ((Nat.max (depthN n) (depthL r) : Nat) : Int) = max (depthN n : Int) (depthL r : Int) := by
      show ((max (depthN n) (depthL r) : Nat) : Int) = _
      omega
    rw [this]
    omega
end
theorem wr_cnt {n : Nest} {ws : List Str} (hf : fit n = true) (hl : ws.length = words n) (hw : ∀ x ∈ ws, isW x = true) : (wrP n ws).count ("<" : Str) = wrK n ∧ depZ (wrP n ws) 0 0 = (wrD n : Int) := by
  have fin : ∀ {xs : List Str} {d : Nat}, (∀ (rest : List Str) (h m : Int), h ≤ m → depZ (xs ++ rest) h m = depZ rest h (max m (h + d))) → depZ xs 0 0 = (d : Int) := fun {xs d} g => by
    have := g [] 0 0 (by omega)
    rw [List.append_nil] at this
    rw [this, depZ]
    omega
  cases n with
  | bad => simp [fit] at hf
  | word =>
    obtain ⟨g1, g2⟩ := mk_cnt hf hl hw
    exact ⟨g1, fin g2⟩
  | knot k ps =>
    cases k with
    | false =>
      obtain ⟨g1, g2⟩ := mk_cnt hf hl hw
      rw [(wr_false ps).1, (wr_false ps).2]
      exact ⟨g1, fin g2⟩
    | true =>
      simp only [fit, Bool.and_eq_true] at hf
      obtain ⟨g1, g2⟩ := mkL_cnt hf.2 hl hw
      exact ⟨g1, fin g2⟩
theorem Seg.nest {a w : List Str} {p : List (Nat × Nat)} {r : List Nat} (h : Seg a w p r) (h1 : 1 ≤ w.length) : ∃ n, valid none n = true ∧ fit n = true ∧ Tn.words n = w.length ∧ rowN n 0 = (r.map fun (i : Nat) => (i : Int)) ∧ (wrP n w).count ("<" : Str) ≤ a.count ("<" : Str) ∧ depZ (wrP n w) 0 0 ≤ depZ a 0 0 := by
  obtain ⟨d, g, c⟩ := h.least
  rcases c with ⟨rfl, _, _⟩ | ⟨n, v, f, w', rr, k, e⟩
  · simp at h1
  · obtain ⟨x1, x2⟩ := wr_cnt f w'.symm h.words
    refine ⟨n, v, f, w', rr, by omega, ?_⟩
    have := g [] 0 0 (by omega)
    rw [List.append_nil] at this
    rw [x2, this, depZ]
    omega
end Tn
namespace Tn
open PySem L2
def isSeg (b : List Str) : Prop := ∃ w p r, Seg b w p r
def closeS (b : List Str) : List Str := if 1 < (b.filter notMk).length then ("<" : Str) :: (b ++ [(">" : Str)]) else b
theorem isSeg.app {a b : List Str} : isSeg a → isSeg b → isSeg (a ++ b) := fun ⟨_, _, _, h1⟩ ⟨_, _, _, h2⟩ => ⟨_, _, _, h1.app h2⟩
theorem isSeg.close {b : List Str} : isSeg b → isSeg (closeS b) := fun ⟨w, p, r, h⟩ => by
  unfold closeS
  rw [h.count]
  split
  · rename_i h2
    exact ⟨_, _, _, h.pair h2⟩
  · exact ⟨_, _, _, h⟩
theorem isSeg.word {x : Str} (h : isW x = true) : isSeg [x] := ⟨_, _, _, .word h⟩
theorem isSeg.nil : isSeg [] := ⟨_, _, _, .nil⟩
theorem closeS_len (b : List Str) : (closeS b).length ≤ b.length + 2 := by
  unfold closeS
  split <;> simp
theorem closeS_count (b : List Str) : ((closeS b).filter notMk).length = (b.filter notMk).length := by
  unfold closeS
  split
  · rw [List.filter_cons_of_neg (by decide +kernel), List.filter_append, List.filter_cons_of_neg (by decide +kernel)]
    simp
  · rfl
theorem word_count {x : Str} (h : isW x = true) : ([x].filter notMk).length = 1 := by
  rw [List.filter_cons_of_pos (by simp [notMk, isW_lt h, isW_gt h])]
  rfl
def allW (ss : List (List Str)) : Nat := (ss.map fun b => (b.filter notMk).length).sum
def allL (ss : List (List Str)) : Nat := (ss.map List.length).sum
theorem allW_app (a b : List (List Str)) : allW (a ++ b) = allW a + allW b := by simp [allW]
theorem allL_app (a b : List (List Str)) : allL (a ++ b) = allL a + allL b := by simp [allL]
theorem allW_one (b : List Str) : allW [b] = (b.filter notMk).length := by simp [allW]
theorem allL_one (b : List Str) : allL [b] = b.length := by simp [allL]
def stV (ss : List (List Str)) : List (List V) := ss.map (List.map V.str)
theorem mk_ne {x : Str} : (!decide (V.str x = V.str (Str.ofString "<")) && !decide (V.str x = V.str (Str.ofString ">"))) = notMk x := by
  unfold notMk
  congr 2
  · exact decide_eq_decide.mpr ⟨fun z => V.str.inj z, fun z => by rw [z]⟩
  · exact decide_eq_decide.mpr ⟨fun z => V.str.inj z, fun z => by rw [z]⟩
def spClosed82 : Sp := fun vs H Q _ => ∃ (pl : Addr) (rs : List Addr) (ra rb : Addr) (a b : List Str), vs = [.ref pl] ∧ H pl = some (.lst ((rs ++ [ra] ++ [rb]).map V.ref)) ∧ H ra = some (.lst (a.map V.str)) ∧ H rb = some (.lst (b.map V.str)) ∧ ra ≠ pl ∧ rb ≠ pl ∧ a.length + b.length ≤ 900 ∧
  ∀ (rn : Addr) (H' : Hp), H rn = none → H' pl = some (.lst ((rs ++ [rn]).map V.ref)) → H' rn = some (.lst ((a ++ closeS b).map V.str)) → (∀ x o, x ≠ pl → H x = some o → H' x = some o) → Q .non H'
def spText82 (K : PySem.W.Frag) : Sp := fun vs H Q _ => ∃ (a : Addr) (ns : List Int), vs = [.ref a] ∧ SqL K H a (ns.map V.int) ∧ ns.length ≤ 60 ∧
  ∀ (p : Addr) (xs w : List Str) (ps : List (Nat × Nat)) (r : List Nat) (H' : Hp), H' p = some (.lst (xs.map V.str)) → Seg xs w ps r → 1 ≤ w.length → w.length ≤ 60 → xs.length ≤ 400 → Same H H' → Q (.ref p) H'
theorem VLs.keep {H H' : Hp} {l : Addr} (h : ∀ x o, x ≠ l → H x = some o → H' x = some o) : ∀ {rs : List Addr} {xss : List (List V)}, l ∉ rs → VLs H rs xss → VLs H' rs xss
  | _, _, _, .nil => .nil
  | _ :: _, _ :: _, hn, .cons a t => .cons (h _ _ (fun z => hn (by rw [← z]; exact List.mem_cons_self)) a) (VLs.keep h (fun z => hn (List.mem_cons_of_mem _ z)) t)
theorem VLs.last {H : Hp} {r : Addr} {x : List V} : ∀ {rs : List Addr} {xss : List (List V)}, rs.length = xss.length → VLs H (rs ++ [r]) (xss ++ [x]) → VLs H rs xss ∧ H r = some (.lst x)
  | [], [], _, .cons h _ => ⟨.nil, h⟩
  | [], _ :: _, e, _ => by simp at e
  | _ :: _, [], e, _ => by simp at e
  | _ :: _, _ :: _, e, .cons h t => by
    obtain ⟨h1, h2⟩ := VLs.last (by simpa using e) t
    exact ⟨.cons h h1, h2⟩
theorem stV_app (a b : List (List Str)) : stV (a ++ b) = stV a ++ stV b := by simp [stV]
theorem stV_one (b : List Str) : stV [b] = [b.map V.str] := rfl
theorem Seg.pos {a w : List Str} {p : List (Nat × Nat)} {r : List Nat} (h : Seg a w p r) (h0 : a ≠ []) : 1 ≤ w.length := by
  obtain ⟨d, _, c⟩ := h.least
  rcases c with ⟨_, z, _⟩ | ⟨n, v, f, w', _⟩
  · exact absurd z h0
  · rw [← w']; exact fit_words f
theorem snoc_cases {α : Type} (l : List α) : l = [] ∨ ∃ a x, l = a ++ [x] := by
  rcases List.eq_nil_or_concat l with h | ⟨a, x, h⟩
  · exact .inl h
  · exact .inr ⟨a, x, by simpa using h⟩
theorem VLs.snoc {H : Hp} {x : List V} {rs : List Addr} {xss : List (List V)} (h : VLs H rs (xss ++ [x])) : ∃ rs0 r, rs = rs0 ++ [r] ∧ VLs H rs0 xss ∧ H r = some (.lst x) := by
  have hl := h.len
  rcases snoc_cases rs with rfl | ⟨rs0, r, rfl⟩
  · simp at hl
  · obtain ⟨h1, h2⟩ := VLs.last (by simp at hl; exact hl) h
    exact ⟨rs0, r, rfl, h1, h2⟩
def allN (st : List (List Nat)) : Nat := (st.map List.length).sum
def oT : List Str → List (List Nat) → Nat → Option (List Nat)
  | [], [x], _ => some x
  | [], _, _ => none
  | y :: r, pl, m => if y = "<" then oT r ([] :: pl) m else if y = ">" then (match pl with
      | i :: t :: pl => oT r ((t ++ i.reverse) :: pl) m
      | _ => none) else (match pl with
      | t :: pl => oT r ((t ++ [m]) :: pl) (m + 1)
      | [] => none)
theorem Seg.ords {a w : List Str} {p : List (Nat × Nat)} {r : List Nat} (h : Seg a w p r) : ∀ (rest : List Str) (t : List Nat) (pl : List (List Nat)) (m : Nat), oT (a ++ rest) (t :: pl) m = oT rest ((t ++ r.map (· + m)) :: pl) (m + w.length) := by
  induction h with
  | nil => intro rest t pl m; simp
  | @word x h =>
    intro rest t pl m
    show oT (x :: rest) (t :: pl) m = _
    rw [oT.eq_def]
    dsimp only
    rw [if_neg (isW_lt h), if_neg (isW_gt h)]
    simp
  | @app a b wa wb pa pb ra rb h1 h2 i1 i2 =>
    intro rest t pl m
    rw [List.append_assoc, i1, i2, List.append_assoc, List.map_append, List.map_map, List.length_append, Nat.add_assoc]
    congr 4
    exact List.map_congr_left fun i _ => by simp; omega
  | @pair a w p r h h2 ih =>
    intro rest t pl m
    show oT ("<" :: (a ++ [(">" : Str)] ++ rest)) (t :: pl) m = _
    rw [oT.eq_def]
    dsimp only
    rw [if_pos rfl, List.append_assoc, ih]
    show oT (">" :: rest) _ _ = _
    rw [oT.eq_def]
    dsimp only
    rw [if_neg (by decide +kernel), if_pos rfl]
    simp
theorem Seg.ord {a w : List Str} {p : List (Nat × Nat)} {r : List Nat} (h : Seg a w p r) : oT a [[]] 0 = some r := by
  have := h.ords [] [] [] 0
  rw [List.append_nil, List.nil_append] at this
  rw [this, oT.eq_def]
  simp
def spOrder82 (K : PySem.W.Frag) : Sp := fun vs H Q _ => ∃ (a : Addr) (xs w : List Str) (ps : List (Nat × Nat)) (r : List Nat), vs = [.ref a] ∧ SqL K H a (xs.map V.str) ∧ xs.length ≤ 400 ∧ Seg xs w ps r ∧ w.length ≤ 60 ∧
  ∀ (p : Addr) (H' : Hp), H' p = some (.lst (nv r)) → Same H H' → Q (.ref p) H'
def spDepth82 (K : PySem.W.Frag) : Sp := fun vs H Q _ => ∃ (a : Addr) (xs : List Str), vs = [.ref a] ∧ SqL K H a (xs.map V.str) ∧ Q (.int (depZ xs 0 0)) H
theorem comp_mk {K : PySem.W.Frag} {a : Addr} {xs : List Str} {σ : L2.St} {H1 : Hp} {Q : VK} {D : Addr} (hl : SqL K H1 a (xs.map V.str)) (hD : H1 D = none) (hn : xs.length ≤ 1000) (hq : Q (.ref D) (upd H1 D (.lst ((xs.filter notMk).map V.str)))) :
    CompW (Itl K a) (gName 0) (tAnd (tTest (tOp rNe (tVar 0) (tC (V.str (Str.ofString "<"))))) (tTest (tOp rNe (tVar 0) (tC (V.str (Str.ofString ">")))))) (tVar 0) [] σ H1 Q D := by
  refine comp_invF (n := xs.length) (fun j acc Hc => acc = ((xs.take j).filter notMk).map V.str ∧ Hc = upd H1 D (.lst acc)) ⟨rfl, rfl⟩ ?_ (line1000 hn) ?_ ?_ ?_
  · rintro j acc Hc ⟨rfl, rfl⟩
    refine ⟨upd_same, ?_⟩
    rw [List.length_map]
    exact Nat.le_trans (List.length_filter_le _ _) (by simp; omega)
  · rintro j acc Hc hj ⟨rfl, rfl⟩
    exact ⟨xs.map V.str, .str xs[j], (same_upd hD).seq hl, by rw [List.getElem?_map, List.getElem?_eq_getElem hj]; rfl⟩
  · rintro acc Hc ⟨rfl, rfl⟩
    refine ⟨⟨xs.map V.str, (same_upd hD).seq hl, by simp⟩, ?_⟩
    rw [List.take_length]
    exact hq
  · rintro j acc Hc y H5 R0 R1 hj ⟨rfl, rfl⟩ ⟨rfl, hy⟩ h0 h1
    have hy' := hy _ ((same_upd hD).seq hl)
    rw [List.getElem?_map, List.getElem?_eq_getElem hj] at hy'
    cases hy'
    refine dec_and (A := !decide (V.str xs[j] = V.str (Str.ofString "<"))) (B := !decide (V.str xs[j] = V.str (Str.ofString ">"))) (fun Q h => ⟨_, rfl, rfl, _, rfl, h⟩) (fun Q h => ⟨_, rfl, rfl, _, rfl, h⟩) _ ?_
    rw [mk_ne]
    have ht : (xs.take (j + 1)).filter notMk = (xs.take j).filter notMk ++ (if notMk xs[j] then [xs[j]] else []) := by
      rw [List.take_succ, List.getElem?_eq_getElem hj, List.filter_append]
      simp [List.filter_cons]
    cases hb : notMk xs[j] with
    | true =>
      rw [hb] at ht
      refine iteT ⟨_, rfl, h1 _ _ upd_same ⟨?_, ?_⟩⟩
      · rw [ht, List.map_append]; rfl
      · funext z
        by_cases hz : z = D
        · subst hz; rw [upd_same, upd_same]
        · rw [upd_ne hz, upd_ne hz, upd_ne hz]
    | false =>
      rw [hb] at ht
      refine iteF (h0 _ ⟨?_, rfl⟩)
      rw [ht]; simp
theorem eqKs_nv (l : List Nat) : eqKs (nv l) (nv l) = some true := by
  have e : nv l = (l.map fun (k : Nat) => (k : Int)).map V.int := by rw [nv, List.map_map]; rfl
  rw [e, eqKs_ints _ _ rfl, decide_eq_true rfl]
end Tn
namespace K82
open PySem L2 Tn
def top (i : Nat) : Stmt := PySem.Challenge.pw_turnnest_k82_whole_marked_texts.main.body.getD i (.Pass ⟨0, 0, 0, 0⟩)
abbrev s_is_whole : Stmt := top 7
abbrev s_are_different_below : Stmt := top 8
abbrev s_make_order : Stmt := top 11
abbrev s_left_of : Stmt := top 12
abbrev s_must_be_words : Stmt := top 13
abbrev s_is_nest : Stmt := top 15
abbrev s_is_knot : Stmt := top 16
abbrev s_must_be_nest : Stmt := top 17
abbrev s_is_of_kind : Stmt := top 18
abbrev s_count_words : Stmt := top 19
abbrev s_shared_out : Stmt := top 20
abbrev s_is_word : Stmt := top 24
abbrev s_must_be_row : Stmt := top 25
abbrev s_seen_words : Stmt := top 26
abbrev s_turned_from : Stmt := top 27
abbrev s_write : Stmt := top 28
abbrev s_marked : Stmt := top 29
abbrev s_cuts : Stmt := top 32
abbrev s_nest_of : Stmt := top 33
abbrev s_stretches : Stmt := top 34
abbrev s_law_mixed : Stmt := top 36
abbrev s_law_word : Stmt := top 37
abbrev s_law_closed : Stmt := top 38
abbrev s_law_text : Stmt := top 39
abbrev s_law_order : Stmt := top 40
abbrev s_law_depth : Stmt := top 41
abbrev s_law : Stmt := top 42
structure Txt (mg : Str → Option Value) : Prop where
  b : Blt mg
  str : mg "str" = none
  sum : mg "sum" = none
  max : mg "max" = none
  min : mg "min" = none
  ve : mg "ValueError" = none
  srt : mg "sorted" = none
  enm : mg "enumerate" = none
  rev : mg "reversed" = none
  zip : mg "zip" = none
  all : mg "all" = none
section
variable {P : Program} {w : World} {K : PySem.W.Frag} {mg : Str → Option Value} {base : Heap}
abbrev sIsNest : Stmt := s_is_nest
abbrev sKnot : Stmt := s_is_knot
abbrev sMust : Stmt := s_must_be_nest
abbrev sCountW : Stmt := s_count_words
abbrev sWhole : Stmt := s_is_whole
abbrev sDiff : Stmt := s_are_different_below
abbrev sLeft : Stmt := s_left_of
abbrev sMbw : Stmt := s_must_be_words
abbrev sMake : Stmt := s_make_order
theorem scWhole : FnScope ["thing"] ["thing"] (defScope sWhole) := ⟨rfl, rfl, rfl, by decide +kernel, rfl, by decide +kernel, by decide +kernel⟩
theorem ok_whole {f : Addr} {fd : FuncData} (F : Fun K "is_whole" "is_whole" sWhole f fd) (T : Txt mg) : FnOk P w K mg base CX0 1 f fd ["thing"] (spWhole K) := by
  refine F.ok scWhole (fun vs H Q E h => ?_) (fun cdv A outer s H vs Q E hr h => ?_)
  · obtain ⟨x, rfl, _⟩ := h; rfl
  · obtain ⟨x, rfl, h⟩ := h
    refine ⟨_, (pss_one (ps_ret (pe_and (pe_callB call_isi (by rfl) T.b.isi boot_isi (pa_cons (pv 0) (pa_cons (pe_bltn (v := .ty "int") (by rfl) T.b.int boot_ty_int rfl) pa_nil))) (pe_one (pe_not (pe_callB call_isi (by rfl) T.b.isi boot_isi (pa_cons (pv 0) (pa_cons (pe_bltn (v := .ty "bool") (by rfl) T.b.bl boot_ty_bool rfl) pa_nil)))))))), ?_⟩
    rcases h with ⟨⟨i, rfl⟩, q⟩ | ⟨⟨t, ty, k | ⟨k1, k2⟩⟩, q⟩
    · exact ⟨_, rfl, _, _, _, _, rfl, .int i, kit_same _ _, _, rfl, iteT ⟨_, rfl, _, _, _, _, rfl, .int i, kit_int_bool _, _, rfl, q⟩⟩
    · exact ⟨_, rfl, _, _, _, _, rfl, ty, k, _, rfl, iteF q⟩
    · exact ⟨_, rfl, _, _, _, _, rfl, ty, k1, _, rfl, iteT ⟨_, rfl, _, _, _, _, rfl, ty, k2, _, rfl, q⟩⟩
theorem scDiff : FnScope ["things", "bound", "met", "thing"] ["things", "bound"] (defScope sDiff) := ⟨rfl, rfl, rfl, by decide +kernel, rfl, by decide +kernel, by decide +kernel⟩
theorem ok_diff {f fW : Addr} {fd fdW : FuncData} (F : Fun K "are_different_below" "are_different_below" sDiff f fd) (GW : FnOk P w K mg base CX0 1 fW fdW ["thing"] (spWhole K)) (kW : PySem.W.keepIn K (.ref fW) = true) (mW : mg "is_whole" = some (.ref fW)) (bW : Binds K fdW ["thing"] []) :
    FnOk P w K mg base CX0 2 f fd ["things", "bound"] (spDiff K) := by
  refine F.ok scDiff (fun vs H Q E h => ?_) (fun cdv A outer s H vs Q E hr h => ?_)
  · obtain ⟨l, xs, b, rfl, _⟩ := h; rfl
  · obtain ⟨l, xs, b, rfl, hl, hz, hp, q⟩ := h
    refine ⟨_, (pss_cons (ps_set (i := 2) scDiff.nd rfl (Or.inl rfl) pe_dnewK)
      (pss_cons (ps_for PassesOwn.never rfl (pi_list (pv 0)) (pg_name (i := 3) scDiff.nd rfl (Or.inl rfl))
          (pss_cons (ps_if (pw_or (pt_not (pt_val (pe_call GW hr (by rfl) mW kW bW .nil pass0 (pa_cons (pv 3) pa_nil)))) (pw_or (pt_not (pt_chain op_le op_lt pe_int (pv 3) (pv 1))) (pw_or1 (pt_cmp (pc_din (hu_of hr) (pv 3) (pv 2)))))).pt (pss_one (ps_ret pe_bl)) pss_nil)
      (pss_one (ps_dput (hu_of hr) (pv 2) (pv 3) pe_bl rfl))))
      (pss_one (ps_ret pe_bl)))), ?_⟩
    refine fun d hd => ?_
    have s1 : Same H (upd H d (.dK [])) := same_upd hd
    refine ⟨_, rfl, l, rfl, ⟨_, s1.seq hl⟩, for_list (K := K) (a := l) (xs := xs) (fun i σ H3 => ∃ (ms : List Int) (v : Option V), σ = [some (.ref l), some (.int b), some (.ref d), v] ∧ Same H H3 ∧ H3 d = some (.dK (ms.map fun n => ((Sum.inl n : Key), V.bl true))) ∧ ms.length ≤ i ∧ diffG b [] xs = diffG b ms (xs.drop i))
      ⟨[], none, rfl, s1, upd_same, Nat.le_refl _, rfl⟩ (fun i σ H3 _ ⟨_, _, _, s3, _⟩ => s3.seq hl) ?_ ?_⟩
    · rintro i x σ H3 hi ⟨ms, v, rfl, s3, eD, hml, hg⟩
      have hil : i < xs.length := (List.getElem?_eq_some_iff.mp hi).1
      have hdr : xs.drop i = x :: xs.drop (i + 1) := by
        rw [List.drop_eq_getElem_cons hil]
        congr 1
        exact (List.getElem?_eq_some_iff.mp hi).2
      rw [hdr] at hg
      rcases (hp x (List.mem_of_getElem? hi)) with ⟨z, rfl⟩ | ⟨nw, nz⟩
      · refine ⟨_, rfl, _, rfl, .inl ⟨⟨z, rfl⟩, _, rfl, iteF ?_⟩⟩
        have gz : diffG b ms (.int z :: xs.drop (i + 1)) = if 0 ≤ z ∧ z < b ∧ z ∉ ms then diffG b (ms ++ [z]) (xs.drop (i + 1)) else false := rfl
        rw [gz] at hg
        refine ⟨_, rfl, _, _, rfl, rfl, _, rfl, ?_⟩
        by_cases h0 : (0 : Int) ≤ z
        · rw [if_pos (by simpa using h0)]
          refine ⟨_, rfl, _, _, rfl, rfl, _, rfl, ?_⟩
          by_cases h1 : z < b
          · rw [decide_eq_true h1]
            refine iteF ⟨_, rfl, _, rfl, d, _, rfl, DGet.k (k := Sum.inl z) eD, _, rfl, ?_⟩
            rw [met_val]
            by_cases h2 : z ∈ ms
            · rw [decide_eq_true h2]
              refine iteT ?_
              rw [if_neg (by rintro ⟨_, _, h⟩; exact h h2)] at hg
              have := q H3 s3
              rw [hg] at this
              exact this
            · rw [decide_eq_false h2]
              refine iteF ?_
              rw [if_pos ⟨h0, h1, h2⟩] at hg
              have hnew : valV (ms.map fun n => ((Sum.inl n : Key), V.bl true)) (Sum.inl z) = none := by
                have := met_val ms z
                rw [decide_eq_false h2] at this
                cases e : valV (ms.map fun n => ((Sum.inl n : Key), V.bl true)) (Sum.inl z) with
                | none => rfl
                | some y => rw [e] at this; cases this
              refine ⟨_, rfl, _, rfl, d, _, rfl, DPut.k (k := Sum.inl z) eD (small1000 (by rw [List.length_map]; omega)), ?_⟩
              refine ⟨ms ++ [z], _, rfl, fun c o e => ?_, ?_, by simp; omega, hg⟩
              · rw [upd_ne (ne_of_none e hd)]; exact s3 c o e
              · rw [upd_same, putK_new _ hnew, List.map_append]; rfl
          · rw [decide_eq_false h1]
            refine iteT (iteT ?_)
            rw [if_neg (by rintro ⟨_, h, _⟩; exact h1 h)] at hg
            have := q H3 s3
            rw [hg] at this
            exact this
        · rw [if_neg (by simpa using h0)]
          refine ⟨_, rfl, iteT (iteT ?_)⟩
          rw [if_neg (by rintro ⟨h, _⟩; exact h0 h)] at hg
          have := q H3 s3
          rw [hg] at this
          exact this
      · refine ⟨_, rfl, _, rfl, .inr ⟨nw.mono s3, _, rfl, iteT (iteT ?_)⟩⟩
        rw [diffG_not nz] at hg
        have := q H3 s3
        rw [hg] at this
        exact this
    · rintro σ H3 ⟨ms, v, rfl, s3, eD, _, hg⟩
      rw [List.drop_length] at hg
      have := q H3 s3
      rw [hg] at this
      exact this
def leftComp (s : Stmt) : Scope := match (defBody s).getD 3 (.Pass ⟨0, 0, 0, 0⟩) with
  | .Return (some (.Call _ [.ListComp _ _ sc _] _ _)) _ => sc
  | _ => defScope s
abbrev nsLeft : List Str := ["order", "words", "new_numbers", "number", "word"]
theorem scLeft : FnScope nsLeft ["order", "words"] (defScope sLeft) := ⟨rfl, rfl, rfl, by decide +kernel, rfl, by decide +kernel, by decide +kernel⟩
theorem csLeft : CScope (defScope sLeft) (leftComp sLeft) "word" ["word", "new_numbers"] nsLeft [2] := cs_of (by decide +kernel)
def spMbw (K : PySem.W.Frag) (C : Addr) : Sp := fun vs H Q E => ∃ (l : Addr) (xs : List V) (b : Int), vs = [.ref l, .int b] ∧ SqL K H l xs ∧ xs.length ≤ 1000 ∧ (∀ x ∈ xs, Plain K H x) ∧
  (xs ≠ [] → diffG b [] xs = true → ∀ H', Same H H' → Q .non H') ∧ (xs = [] ∨ diffG b [] xs = false → ∀ H', Same H H' → E (.ref C) none H')
theorem scMbw : FnScope ["words", "many"] ["words", "many"] (defScope sMbw) := ⟨rfl, rfl, rfl, by decide +kernel, rfl, by decide +kernel, by decide +kernel⟩
theorem ok_mbw {f fD C : Addr} {fd fdD : FuncData} (F : Fun K "must_be_words" "must_be_words" sMbw f fd) (T : Txt mg) (GD : FnOk P w K mg base CX0 2 fD fdD ["things", "bound"] (spDiff K)) (kD : PySem.W.keepIn K (.ref fD) = true) (mD : mg "are_different_below" = some (.ref fD)) (bD : Binds K fdD ["things", "bound"] [])
    (mC : mg "NoWords" = some (.ref C)) (xC : PySem.W.excIn K C bmVE "ValueError.__new__" = true) : FnOk P w K mg base (CXV P w) 3 f fd ["words", "many"] (spMbw K C) := by
  refine funV F scMbw (fun vs H Q E h => ?_) (fun cdv A outer s H vs Q E hr h => ?_)
  · obtain ⟨l, xs, b, rfl, _⟩ := h; rfl
  · obtain ⟨l, xs, b, rfl, hl, hz, hp, q, qE⟩ := h
    refine ⟨_, pss_cons (ps_if (pt_cmpR op_eq (pe_callB call_len_seq (by rfl) T.b.len PySem.boot_len (pa_cons (pv 0) pa_nil)) pe_int (nomark _)) (pss_one (ps_raise throwV rfl (by rfl) mC xC (pa_cons pe_str pa_nil))) pss_nil)
      (pss_one (ps_if (pt_not (pt_val (pe_call GD hr (by rfl) mD kD bD .nil pass0 (pa_cons (pv 0) (pa_cons (pv 1) pa_nil))))) (pss_one (ps_raise throwV rfl (by rfl) mC xC (pa_cons pe_str pa_nil))) pss_nil)), ?_⟩
    refine ⟨_, rfl, l, _, rfl, .inl hl, rfl, _, rfl, ?_⟩
    by_cases hne : xs = []
    · subst hne
      exact iteT ⟨(by show 1 ≤ sizeLine; decide), qE (.inl rfl) _ (Same.refl _)⟩
    · rw [decide_eq_false (by intro z; have z : ((xs.length : Nat) : Int) = 0 := V.int.inj z; exact hne (List.length_eq_zero_iff.mp (by omega)))]
      refine iteF ?_
      refine ⟨_, rfl, _, rfl, l, xs, b, rfl, hl, hz, hp, fun H1 s1 => ⟨_, rfl, ?_⟩⟩
      cases hdv : diffG b [] xs with
      | false => exact iteT ⟨(by show 1 ≤ sizeLine; decide), qE (.inr hdv) _ s1⟩
      | true => exact iteF (q hne hdv _ s1)
theorem ok_left {f fM C : Addr} {fd fdM : FuncData} (F : Fun K "left_of" "left_of" sLeft f fd) (T : Txt mg) (GM : FnOk P w K mg base (CXV P w) 3 fM fdM ["words", "many"] (spMbw K C)) (kM : PySem.W.keepIn K (.ref fM) = true) (mM : mg "must_be_words" = some (.ref fM)) (bM : Binds K fdM ["words", "many"] []) : FnOk P w K mg base (CXV P w) 4 f fd ["order", "words"] (spLeft K C) := by
  refine funV F scLeft (fun vs H Q E h => ?_) (fun cdv A outer s H vs Q E hr h => ?_)
  · obtain ⟨o, l, ord, xs, rfl, _⟩ := h; rfl
  · obtain ⟨o, l, ord, xs, rfl, hT, hol, hl, hz, hp, q, h64, qE⟩ := h
    have hlo : (ord.map V.int).length = ord.length := List.length_map ..
    refine ⟨_, pss_cons (ps_expr (pe_call GM hr (by rfl) mM kM bM .nil passV (pa_cons (pv 1) (pa_cons (pe_callB call_len_seq (by rfl) T.b.len PySem.boot_len (pa_cons (pv 0) pa_nil)) pa_nil))))
      (pss_cons (ps_set (i := 2) scLeft.nd rfl (Or.inr rfl) pe_dnewK)
      (PSs.nox (pss_cons (ps_for PassesOwn.never rfl (pi_enumTL rfl T.enm (pa_cons (pe_callB call_sortedL (by rfl) T.srt boot_sorted (pa_cons (pv 1) pa_nil)) pa_nil)) (pg_tup rfl (pgs_cons (pg_name (i := 3) scLeft.nd rfl (Or.inl rfl)) (pgs_cons (pg_name (i := 4) scLeft.nd rfl (Or.inl rfl)) pgs_nil)))
          (pss_one (ps_dput (hu_of hr) (pv 2) (pv 4) (pv 3) rfl)))
        (pss_one (ps_ret (pe_callTy call_tuple_of (by rfl) T.b.tup boot_ty_tuple (pa_cons (pe_comp rfl csLeft rfl (pi_tup (pv 0)) (fun cl C fp s H => pg_name (i := 0) csLeft.nd rfl (Or.inl rfl)) (fun cl C fp s H => pts_one (pt_cmp (pc_din (hu_of hr) (pv 0) (pv 1)))) (fun cl C fp s H => pe_dget (hu_of hr) (pv 1) (pv 0) (fun _ _ => rfl))) pa_nil))))))), ?_⟩
    refine ⟨_, rfl, _, rfl, o, _, rfl, .inr hT, l, xs, (ord.length : Int), (by rw [List.length_map]; rfl), hl, hz, hp, fun hne hdv H1 s1 => ?_, qE⟩
    obtain ⟨ws, rfl, nd, rg, _⟩ := diffG_iff.mp hdv
    have hws : ws ≠ [] := fun z => hne (by rw [z]; rfl)
    have hw64 : ws.length < 64 := by
      rcases h64 with z | z
      · exact absurd z hne
      · have := z hdv
        rwa [List.length_map] at this
    refine fun d hd => ?_
    have s2 : Same H (upd H1 d (.dK [])) := s1.trans (same_upd hd)
    have eD2 : (upd H1 d (.dK [])) d = some (.dK []) := upd_same
    have hd0 : H d = none := s1.free hd
    generalize upd H1 d (.dK []) = H2 at s2 eD2 ⊢
    refine ⟨_, rfl, l, ws, rfl, s2.seq hl, hw64, fun ws' sl hpm hsr hsl => ⟨sl, rfl, ⟨_, SqL.of upd_same⟩, ?_⟩⟩
    have hwl : ws'.length = ws.length := hpm.length_eq
    have nd' : ws'.Nodup := hpm.nodup_iff.mpr nd
    have nds : d ≠ sl := ne_of_none eD2 hsl
    have s3 : Same H (upd H2 sl (.lst (ws'.map V.int))) := s2.trans (same_upd hsl)
    refine for_enumL (K := K) (a := sl) (xs := ws'.map V.int) (fun i σ H3 => ∃ (kvs : List (Key × V)) (v v' : Option V), σ = [some (.ref o), some (.ref l), some (.ref d), v, v'] ∧ Same H H3 ∧ H3 sl = some (.lst (ws'.map V.int)) ∧ H3 d = some (.dK kvs) ∧ kvs.length ≤ i ∧
        ∀ w : Int, valV kvs (Sum.inl w) = if w ∈ ws'.take i then some (V.int (rank ws w : Nat)) else none)
      ⟨[], none, none, rfl, s3, upd_same, by rw [upd_ne nds]; exact eD2, Nat.le_refl _, fun w => by rw [List.take_zero]; rfl⟩ (fun i σ H3 _ ⟨_, _, _, _, _, e, _⟩ => SqL.of e) ?_ ?_
    · rintro i y σ H3 tp hi ⟨kvs, v, v', rfl, s4, eS, eD, hkl, hval⟩ htp
      obtain ⟨z, hz', rfl⟩ := ints_get hi
      have hil : i < ws'.length := (List.getElem?_eq_some_iff.mp hz').1
      have ndt : d ≠ tp := ne_of_none eD htp
      have nst : sl ≠ tp := ne_of_none eS htp
      have hrk : rank ws z = i := sorted_rank hpm hsr nd hz'
      have hnot : z ∉ ws'.take i := fun hm => by
        obtain ⟨j, hj, e⟩ := List.getElem_of_mem hm
        rw [List.length_take] at hj
        have e2 : ws'[j]? = some z := by
          rw [← e, List.getElem_take]
          exact List.getElem?_eq_getElem _
        have := sorted_rank hpm hsr nd e2
        omega
      have hnew : valV kvs (Sum.inl z) = none := by rw [hval, if_neg hnot]
      refine ⟨tp, _, rfl, SqT.of upd_same, rfl, _, _, rfl, _, _, rfl, rfl, ?_⟩
      refine ⟨_, rfl, _, rfl, _, rfl, d, _, rfl, DPut.k (k := Sum.inl z) (by rw [upd_ne ndt]; exact eD) (small1000 (by omega)), ?_⟩
      refine ⟨_, _, _, rfl, fun b ob e => ?_, ?_, upd_same, ?_, fun u => ?_⟩
      · rw [upd_ne (ne_of_none e hd0), upd_ne (ne_of_none (s4 b ob e) htp)]
        exact s4 b ob e
      · rw [upd_ne nds.symm, upd_ne nst]
        exact eS
      · rw [putK_new _ hnew, List.length_append, List.length_singleton]
        omega
      · rw [valV_put, hval, List.take_succ, hz']
        by_cases hu : u = z
        · subst hu
          rw [if_pos rfl, if_pos (by simp), hrk]
        · rw [if_neg (by intro e; injection e with e; exact hu e)]
          have : (u ∈ ws'.take i ++ (some z).toList) ↔ u ∈ ws'.take i := by simp [hu]
          by_cases hm : u ∈ ws'.take i
          · rw [if_pos hm, if_pos (this.mpr hm)]
          · rw [if_neg hm, if_neg (fun h => hm (this.mp h))]
    · rintro σ H3 ⟨kvs, v, v', rfl, s4, eS, eD, hkl, hval⟩
      rw [List.length_map, List.take_length] at hval
      have hval' : ∀ w : Int, valV kvs (Sum.inl w) = if w ∈ ws then some (V.int (rank ws w : Nat)) else none := fun w => by
        rw [hval]
        by_cases hm : w ∈ ws
        · rw [if_pos hm, if_pos (hpm.mem_iff.mpr hm)]
        · rw [if_neg hm, if_neg (fun h => hm (hpm.mem_iff.mp h))]
      refine ⟨_, rfl, o, rfl, ⟨_, s4.sqt hT⟩, fun D hD => ?_⟩
      have ndD : d ≠ D := ne_of_none eD hD
      have sD : ∀ acc, Same H (upd H3 D (.lst acc)) := fun acc => s4.trans (same_upd hD)
      refine comp_invF (n := ord.length) (fun i acc H' => acc = (leftF (ord.take i) ws).map V.int ∧ H' = upd H3 D (.lst acc)) ⟨rfl, rfl⟩ ?_ (line1000 hol) ?_ ?_ ?_
      · rintro i acc H' ⟨rfl, rfl⟩
        refine ⟨upd_same, ?_⟩
        have := leftF_len (ord.take i) ws
        rw [List.length_take] at this
        rw [List.length_map]
        omega
      · rintro i acc H' hi ⟨rfl, rfl⟩
        exact ⟨ord.map V.int, V.int ord[i], (sD _).sqt hT, get_ints (by simp [hi])⟩
      · rintro acc H' ⟨rfl, rfl⟩
        refine ⟨⟨ord.map V.int, (sD _).sqt hT, by rw [hlo]; exact Nat.le_refl _⟩, ?_⟩
        rw [List.take_length]
        exact ⟨D, _, rfl, .inl ⟨SqL.of upd_same, fun t htt => q ws rfl hws hw64 nd rg t _ ((sD _).free htt) upd_same ((sD _).trans (same_upd htt))⟩⟩
      · rintro i acc H' y H5 R0 R1 hi ⟨rfl, rfl⟩ ⟨rfl, hy⟩ hR0 hR1
        obtain ⟨z, hz', rfl⟩ := ints_get (hy _ ((sD _).sqt hT))
        have eDD : ∀ acc, (upd H3 D (.lst acc)) d = some (.dK kvs) := fun acc => by rw [upd_ne ndD]; exact eD
        have hcat : ord.take (i + 1) = ord.take i ++ [z] := by rw [List.take_succ, hz']; rfl
        refine ⟨_, rfl, _, rfl, d, _, rfl, DGet.k (k := Sum.inl z) (eDD _), _, rfl, ?_⟩
        rw [hval']
        by_cases hm : z ∈ ws
        · rw [if_pos hm]
          refine iteT ⟨_, rfl, _, rfl, d, V.int (rank ws z : Nat), rfl, ?_, hR1 _ _ upd_same ⟨?_, upd_upd⟩⟩
          · have := DGet.k (k := Sum.inl z) (eDD ((leftF (ord.take i) ws).map V.int))
            rw [hval', if_pos hm] at this
            exact this
          · rw [hcat]
            unfold leftF
            rw [List.filter_append, List.map_append, List.map_append]
            congr 1
            rw [List.filter_cons_of_pos (by simpa using hm)]
            rfl
        · rw [if_neg hm]
          refine iteF (hR0 _ ⟨?_, rfl⟩)
          rw [hcat]
          unfold leftF
          rw [List.filter_append, List.map_append, List.map_append]
          rw [List.filter_cons_of_neg (by simpa using hm)]
          simp
theorem scMake : FnScope ["numbers"] ["numbers"] (defScope sMake) := ⟨rfl, rfl, rfl, by decide +kernel, rfl, by decide +kernel, by decide +kernel⟩
theorem ok_make {f fD C : Addr} {fd fdD : FuncData} {mw : Tok} (F : Fun K "make_order" "make_order" sMake f fd) (T : Txt mg) (GD : FnOk P w K mg base CX0 2 fD fdD ["things", "bound"] (spDiff K)) (kD : PySem.W.keepIn K (.ref fD) = true) (mD : mg "are_different_below" = some (.ref fD)) (bD : Binds K fdD ["things", "bound"] [])
    (mC : mg "NoOrder" = some (.ref C)) (xC : PySem.W.excIn K C bmVE "ValueError.__new__" = true) (mM : mg "MOST_WORDS" = some (.int 60 mw)) : FnOk P w K mg base (CXV P w) 3 f fd ["numbers"] (spMake K C) := by
  refine funV F scMake (fun vs H Q E h => ?_) (fun cdv A outer s H vs Q E hr h => ?_)
  · obtain ⟨l, xs, rfl, _⟩ := h; rfl
  · obtain ⟨l, xs, rfl, hl, hz, hp, q, qE⟩ := h
    refine ⟨_, (pss_cons (ps_if (pt_not (pt_chain op_le op_le pe_int (pe_callB call_len_seq (by rfl) T.b.len PySem.boot_len (pa_cons (pv 0) pa_nil)) (pe_glob (v := .int 60) (by rfl) mM ⟨mw, rfl⟩))) (pss_one (ps_raise throwV rfl (by rfl) mC xC (pa_cons pe_str pa_nil))) pss_nil)
      (pss_cons (ps_if (pt_not (pt_val (pe_call GD hr (by rfl) mD kD bD .nil pass0 (pa_cons (pv 0) (pa_cons (pe_callB call_len_seq (by rfl) T.b.len PySem.boot_len (pa_cons (pv 0) pa_nil)) pa_nil))))) (pss_one (ps_raise throwV rfl (by rfl) mC xC (pa_cons pe_str pa_nil))) pss_nil)
      (pss_one (ps_ret (pe_callTy call_tuple_of (by rfl) T.b.tup boot_ty_tuple (pa_cons (pv 0) pa_nil)))))), ?_⟩
    refine ⟨_, rfl, l, _, rfl, .inl hl, _, _, rfl, rfl, _, rfl, ?_⟩
    by_cases h1 : 1 ≤ xs.length
    · rw [if_pos (decide_eq_true (by omega))]
      refine ⟨_, _, rfl, rfl, _, rfl, ?_⟩
      by_cases h2 : xs.length ≤ 60
      · rw [decide_eq_true (by omega)]
        refine iteF ?_
        refine ⟨_, rfl, _, rfl, l, _, rfl, .inl hl, l, xs, (xs.length : Int), rfl, hl, hz, hp, fun H1 s1 => ⟨_, rfl, ?_⟩⟩
        cases hdv : diffG (xs.length : Int) [] xs with
        | false => exact iteT ⟨(by show 1 ≤ sizeLine; decide), qE (not_good_diff hdv) _ s1⟩
        | true =>
          refine iteF ⟨_, rfl, l, _, rfl, .inl ⟨s1.seq hl, fun t ht => q ⟨h1, h2, hdv⟩ t _ (s1.free ht) upd_same (s1.trans (same_upd ht))⟩⟩
      · rw [decide_eq_false (by omega)]
        exact iteT ⟨(by show 1 ≤ sizeLine; decide), qE (fun g => h2 g.2.1) _ (Same.refl _)⟩
    · rw [if_neg (by rw [decide_eq_false (by omega)]; decide)]
      exact ⟨_, rfl, iteT ⟨(by show 1 ≤ sizeLine; decide), qE (fun g => h1 g.1) _ (Same.refl _)⟩⟩
theorem scKnot : FnScope ["thing"] ["thing"] (defScope sKnot) := ⟨rfl, rfl, rfl, by decide +kernel, rfl, by decide +kernel, by decide +kernel⟩
theorem ok_knot {f : Addr} {fd : FuncData} (F : Fun K "is_knot" "is_knot" sKnot f fd) (T : Txt mg) : FnOk P w K mg base CX0 1 f fd ["thing"] (spKnot K) := by
  refine F.ok scKnot (fun vs H Q E h => ?_) (fun cdv A outer s H vs Q E hr h => ?_)
  · obtain ⟨v, rfl, _⟩ := h; rfl
  · obtain ⟨v, rfl, h⟩ := h
    refine ⟨_, (pss_cons (ps_if (pw_or (pt_not (pt_val (pe_callB call_isi (by rfl) T.b.isi boot_isi (pa_cons (pv 0) (pa_cons (pe_bltn (v := .ty "tuple") (by rfl) T.b.tup boot_ty_tuple rfl) pa_nil))))) (pw_or1 (pt_cmpR op_ne (pe_callB call_len_seq (by rfl) T.b.len PySem.boot_len (pa_cons (pv 0) pa_nil)) pe_int (nomark _)))).pt (pss_one (ps_ret pe_bl)) pss_nil)
      (pss_cons (ps_if (pw_or (pt_not (pt_val (pe_callB call_isi (by rfl) T.b.isi boot_isi (pa_cons (pe_ix ix_tup (pv 0) pe_int (fun _ _ => rfl)) (pa_cons (pe_bltn (v := .ty "str") (by rfl) T.str boot_ty_str rfl) pa_nil))))) (pw_or1 (pt_cmpR op_notIn_seq (pe_ix ix_tup (pv 0) pe_int (fun _ _ => rfl)) (pe_tup (pa_cons pe_str (pa_cons pe_str pa_nil))) rfl))).pt (pss_one (ps_ret pe_bl)) pss_nil)
      (pss_one (ps_ret (pe_and (pe_callB call_isi (by rfl) T.b.isi boot_isi (pa_cons (pe_ix ix_tup (pv 0) pe_int (fun _ _ => rfl)) (pa_cons (pe_bltn (v := .ty "tuple") (by rfl) T.b.tup boot_ty_tuple rfl) pa_nil))) (pe_one (pe_cmpR op_ge (pe_callB call_len_seq (by rfl) T.b.len PySem.boot_len (pa_cons (pe_ix ix_tup (pv 0) pe_int (fun _ _ => rfl)) pa_nil)) pe_int (nomark _)))))))), ?_⟩
    rcases h with ⟨h, q⟩ | ⟨a, b, k, us, rfl, e1, e2, h2, hz, q⟩
    · cases h with
      | ty t k => exact ⟨_, rfl, _, _, _, _, rfl, t, k, _, rfl, iteT (iteT (q _ (Same.refl _)))⟩
      | @len a xs e k =>
        refine ⟨_, rfl, _, _, _, _, rfl, .tup e, kit_same _ _, _, rfl, iteF ?_⟩
        refine ⟨_, rfl, a, _, rfl, .inr (SqT.of e), rfl, _, rfl, ?_⟩
        rw [decide_eq_false (by intro z; have z : ((xs.length : Nat) : Int) = 2 := V.int.inj z; omega)]
        exact iteT (q _ (Same.refl _))
      | @notStr a x y t e ty k _ =>
        refine ⟨_, rfl, _, _, _, _, rfl, .tup e, kit_same _ _, _, rfl, iteF ?_⟩
        refine ⟨_, rfl, a, _, rfl, .inr (SqT.of e), rfl, _, rfl, iteF ?_⟩
        exact ⟨_, rfl, a, _, 0, _, rfl, rfl, SqT.of e, rfl, _, _, _, _, rfl, ty, k, _, rfl, iteT (iteT (q _ (Same.refl _)))⟩
      | @kind a z y e n1 n2 _ =>
        refine ⟨_, rfl, _, _, _, _, rfl, .tup e, kit_same _ _, _, rfl, iteF ?_⟩
        refine ⟨_, rfl, a, _, rfl, .inr (SqT.of e), rfl, _, rfl, iteF ?_⟩
        refine ⟨_, rfl, a, _, 0, _, rfl, rfl, SqT.of e, rfl, _, _, _, _, rfl, .str z, kit_same _ _, _, rfl, iteF ?_⟩
        refine ⟨_, rfl, a, _, 0, _, rfl, rfl, SqT.of e, rfl, (by show 2 ≤ sizeLine; decide), fun p hp => ⟨p, _, rfl, .inr (SqT.of upd_same), rfl, rfl, _, rfl, ?_⟩⟩
        rw [kS_notIn n1 n2]
        exact iteT (q _ (same_upd hp))
      | @notTup a k y t e ty kt =>
        refine ⟨_, rfl, _, _, _, _, rfl, .tup e, kit_same _ _, _, rfl, iteF ?_⟩
        refine ⟨_, rfl, a, _, rfl, .inr (SqT.of e), rfl, _, rfl, iteF ?_⟩
        refine ⟨_, rfl, a, _, 0, _, rfl, rfl, SqT.of e, rfl, _, _, _, _, rfl, .str _, kit_same _ _, _, rfl, iteF ?_⟩
        refine ⟨_, rfl, a, _, 0, _, rfl, rfl, SqT.of e, rfl, (by show 2 ≤ sizeLine; decide), fun p hp => ⟨p, _, rfl, .inr (SqT.of upd_same), rfl, rfl, _, rfl, ?_⟩⟩
        rw [kS_in]
        refine iteF ?_
        have e' : (upd H p (.tup [V.str "+", V.str "-"])) a = some (.tup [V.str (kS k), y]) := same_upd hp _ _ e
        exact ⟨_, rfl, a, _, 1, _, rfl, rfl, SqT.of e', rfl, _, _, _, _, rfl, Same.ty (same_upd hp) ty, kt, _, rfl, iteF (q _ (same_upd hp))⟩
      | @few a b k xs e1 e2 hlt =>
        refine ⟨_, rfl, _, _, _, _, rfl, .tup e1, kit_same _ _, _, rfl, iteF ?_⟩
        refine ⟨_, rfl, a, _, rfl, .inr (SqT.of e1), rfl, _, rfl, iteF ?_⟩
        refine ⟨_, rfl, a, _, 0, _, rfl, rfl, SqT.of e1, rfl, _, _, _, _, rfl, .str _, kit_same _ _, _, rfl, iteF ?_⟩
        refine ⟨_, rfl, a, _, 0, _, rfl, rfl, SqT.of e1, rfl, (by show 2 ≤ sizeLine; decide), fun p hp => ⟨p, _, rfl, .inr (SqT.of upd_same), rfl, rfl, _, rfl, ?_⟩⟩
        rw [kS_in]
        refine iteF ?_
        have e1' : (upd H p (.tup [V.str "+", V.str "-"])) a = some (.tup [V.str (kS k), .ref b]) := same_upd hp _ _ e1
        have e2' : (upd H p (.tup [V.str "+", V.str "-"])) b = some (.tup xs) := same_upd hp _ _ e2
        refine ⟨_, rfl, a, _, 1, _, rfl, rfl, SqT.of e1', rfl, _, _, _, _, rfl, .tup e2', kit_same _ _, _, rfl, iteT ?_⟩
        refine ⟨_, rfl, a, _, 1, _, rfl, rfl, SqT.of e1', rfl, b, _, rfl, .inr (SqT.of e2'), _, _, rfl, rfl, ?_⟩
        show Q (V.bl (decide ((2 : Int) ≤ (xs.length : Int)))) _
        rw [decide_eq_false (by omega)]
        exact q _ (same_upd hp)
    · refine ⟨_, rfl, _, _, _, _, rfl, .tup e1, kit_same _ _, _, rfl, iteF ?_⟩
      refine ⟨_, rfl, a, _, rfl, .inr (SqT.of e1), rfl, _, rfl, iteF ?_⟩
      refine ⟨_, rfl, a, _, 0, _, rfl, rfl, SqT.of e1, rfl, _, _, _, _, rfl, .str _, kit_same _ _, _, rfl, iteF ?_⟩
      refine ⟨_, rfl, a, _, 0, _, rfl, rfl, SqT.of e1, rfl, (by show 2 ≤ sizeLine; decide), fun p hp => ⟨p, _, rfl, .inr (SqT.of upd_same), rfl, rfl, _, rfl, ?_⟩⟩
      rw [kS_in]
      refine iteF ?_
      have e1' : (upd H p (.tup [V.str "+", V.str "-"])) a = some (.tup [V.str (kS k), .ref b]) := same_upd hp _ _ e1
      have e2' : (upd H p (.tup [V.str "+", V.str "-"])) b = some (.tup us) := same_upd hp _ _ e2
      refine ⟨_, rfl, a, _, 1, _, rfl, rfl, SqT.of e1', rfl, _, _, _, _, rfl, .tup e2', kit_same _ _, _, rfl, iteT ?_⟩
      refine ⟨_, rfl, a, _, 1, _, rfl, rfl, SqT.of e1', rfl, b, _, rfl, .inr (SqT.of e2'), _, _, rfl, rfl, ?_⟩
      show Q (V.bl (decide ((2 : Int) ≤ (us.length : Int)))) _
      rw [decide_eq_true (by omega)]
      exact q _ (same_upd hp)
def isnComp (s : Stmt) : Scope := match (defBody s).getD 2 (.Pass ⟨0, 0, 0, 0⟩) with
  | .While _ [_, _, .If _ _ [.If _ [.Expr (.Call _ [.ListComp _ _ sc _] _ _) _] _ _] _] _ _ => sc
  | _ => defScope s
abbrev nsIsNest : List Str := ["thing", "words", "waiting", "entry"]
theorem scIsNest : FnScope nsIsNest ["thing"] (defScope sIsNest) := ⟨rfl, rfl, rfl, by decide +kernel, rfl, by decide +kernel, by decide +kernel⟩
theorem csIsNest : CScope (defScope sIsNest) (isnComp sIsNest) "part" ["part", "entry"] nsIsNest [3] := cs_of (by decide +kernel)
theorem ok_isnest {f fK : Addr} {fd fdK : FuncData} {mw : Tok} (F : Fun K "is_nest" "is_nest" sIsNest f fd) (T : Txt mg) (GK : FnOk P w K mg base CX0 1 fK fdK ["thing"] (spKnot K)) (kK : PySem.W.keepIn K (.ref fK) = true) (mK : mg "is_knot" = some (.ref fK)) (bK : Binds K fdK ["thing"] [])
    (mM : mg "MOST_WORDS" = some (.int 60 mw)) : FnOk P w K mg base CX0 2 f fd ["thing"] (spIsNest K) := by
  refine F.ok scIsNest (fun vs H Q E h => ?_) (fun cdv A outer s H vs Q E hr h => ?_)
  · obtain ⟨v, n, rfl, _⟩ := h; rfl
  · obtain ⟨v, n, rfl, hN, q⟩ := h
    refine ⟨_, (pss_cons (ps_set (i := 1) scIsNest.nd rfl (Or.inl rfl) pe_int)
      (pss_cons (ps_set (i := 2) scIsNest.nd rfl (Or.inl rfl) (pe_lst (pa_cons (pe_tup (pa_cons (pv 0) (pa_cons pe_str pa_nil))) pa_nil)))
      (pss_cons (ps_while PassesOwn.never (pt_truth (pv 2) (fun _ => rfl))
        (pss_cons (ps_if (pt_cmpR op_gt (pe_op op_add (pv 1) (pe_callB call_len_seq (by rfl) T.b.len PySem.boot_len (pa_cons (pv 2) pa_nil))) (pe_glob (v := .int 60) (by rfl) mM ⟨mw, rfl⟩) (nomark _)) (pss_one (ps_ret pe_bl)) pss_nil)
      (pss_cons (ps_set (i := 3) scIsNest.nd rfl (Or.inr rfl) (pe_bm0 PySem.F.plainAttrs_list PySem.F.slot_list_pop PySem.F.type_list_pop mt_pop (pv 2)))
      (pss_one (ps_if (pt_cmpR op_isN (pe_ix ix_tup (pv 3) pe_int (fun _ _ => rfl)) pe_non (nomark _)) (pss_one (ps_aug (i := 1) scIsNest.nd rfl (Or.inl rfl) pe_int ip_add))
              (pss_one (ps_if (pw_and (pt_val (pe_call GK hr (by rfl) mK kK bK .nil pass0 (pa_cons (pe_ix ix_tup (pv 3) pe_int (fun _ _ => rfl)) pa_nil))) (pw_and1 (pt_cmpR op_ne (pe_ix ix_tup (pe_ix ix_tup (pv 3) pe_int (fun _ _ => rfl)) pe_int (fun _ _ => rfl)) (pe_ix ix_tup (pv 3) pe_int (fun _ _ => rfl)) (nomark _)))).pt
                (pss_one (ps_expr (pe_bm PySem.F.plainAttrs_list PySem.F.slot_list_extend PySem.F.type_list_extend mt_extend (pv 2) (pa_cons (pe_comp rfl csIsNest rfl (pi_tup (pe_ix ix_tup (pe_ix ix_tup (pv 3) pe_int (fun _ _ => rfl)) pe_int (fun _ _ => rfl))) (fun cl C fp s H => pg_name (i := 0) csIsNest.nd rfl (Or.inl rfl)) (fun cl C fp s H => pts_nil)
                  (fun cl C fp s H => pe_tup (pa_cons (pv 0) (pa_cons (pe_ix (r := rIxT K) ix_tup (pe_ix (r := rIxT K) ix_tup (pv 1) pe_int (fun _ _ => rfl)) pe_int (fun _ _ => rfl)) pa_nil)))) pa_nil))))
                (pss_one (ps_ret pe_bl)))))))))
      (pss_one (ps_ret pe_bl))))), ?_⟩
    refine ⟨_, rfl, (by show 2 ≤ sizeLine; decide), fun t0 ht0 => ⟨(by show 1 ≤ sizeLine; decide), fun wl hwl => ?_⟩⟩
    have hw0 : H wl = none := (same_upd ht0).free hwl
    have sU : ∀ (G : Hp) (o : HO), Same H G → Same H (upd G wl o) := fun G o h b ob e => by rw [upd_ne (ne_of_none e hw0)]; exact h b ob e
    refine ⟨fun m σ H' => ∃ (st : List (Nest × Option Bool)) (ts : List Addr) (wd : Nat) (v3 : Option V), σ = [some v, some (.int (wd : Int)), some (.ref wl), v3] ∧ Same H H' ∧ H' wl = some (.lst (ts.reverse.map V.ref)) ∧ WaitAt K H' st ts ∧ m = waitS st ∧ wd ≤ 60 ∧ okN n = (waitOk st && decide (wd + waitW st ≤ 60)),
      ⟨waitS [(n, none)], [(n, none)], [t0], 0, none, rfl, sU _ _ (same_upd ht0), upd_same, ⟨t0, [], v, rfl, ?_, ?_, rfl⟩, rfl, by decide, ?_⟩, ?_⟩
    · rw [upd_ne (ne_of_none upd_same hwl)]; exact upd_same
    · exact (hN.mono (same_upd ht0)).mono (same_upd hwl)
    · unfold okN waitOk waitW
      simp
    rintro m σ H' ⟨st, ts, wd, v3, rfl, sx, eW, hWt, rfl, hwd, hok⟩
    have hlen := hWt.len
    have hww := hWt.words
    cases st with
    | nil =>
      have e0 : ts = [] := hWt
      subst e0
      refine ⟨_, rfl, false, .inl ⟨_, SqL.of eW, rfl⟩, iteF ?_⟩
      have : okN n = true := by
        rw [hok]
        show (true && decide (wd + 0 ≤ 60)) = true
        simp
        omega
      rw [this] at q
      exact q _ sx
    | cons p r =>
      obtain ⟨t, tr, u, e0, h1, h2, h3⟩ := hWt
      subst e0
      have hrl : (tr.reverse.map V.ref ++ [V.ref t]) = ((t :: tr).reverse.map V.ref) := by simp
      rw [← hrl] at eW
      have hlr := h3.len
      refine ⟨_, rfl, true, .inl ⟨_, SqL.of eW, (by simp)⟩, iteT ?_⟩
      refine ⟨fun σ' Hx => ∃ (st : List (Nest × Option Bool)) (ts : List Addr) (wd : Nat) (v3 : Option V), σ' = [some v, some (.int (wd : Int)), some (.ref wl), v3] ∧ Same H Hx ∧ Hx wl = some (.lst (ts.reverse.map V.ref)) ∧ WaitAt K Hx st ts ∧ waitS st < waitS (p :: r) ∧ wd ≤ 60 ∧ okN n = (waitOk st && decide (wd + waitW st ≤ 60)), ?_, ?_⟩
      · rintro σ' Hx ⟨st, ts, wd', v3', e, a1, a2, a3, a4, a5, a6⟩
        exact ⟨_, a4, st, ts, wd', v3', e, a1, a2, a3, rfl, a5, a6⟩
      have hcount : (tr.reverse.map V.ref ++ [V.ref t]).length = (p :: r).length := by simp; omega
      refine ⟨_, rfl, _, rfl, wl, _, rfl, .inl (SqL.of eW), _, _, rfl, rfl, _, _, rfl, rfl, _, rfl, ?_⟩
      by_cases hbig : 60 < (wd : Int) + ((tr.reverse.map V.ref ++ [V.ref t]).length : Int)
      · rw [decide_eq_true hbig]
        refine iteT ?_
        have : okN n = false := by
          rw [hok]
          have : ¬ (wd + waitW (p :: r) ≤ 60) := by omega
          simp [this]
        rw [this] at q
        exact q _ sx
      rw [decide_eq_false hbig]
      refine iteF ?_
      refine ⟨_, rfl, .inl ⟨rfl, _, SqL.of eW⟩, wl, _, V.ref t, rfl, rfl, eW, (by simp), ?_⟩
      rw [List.dropLast_concat]
      have eW1 : (upd H' wl (.lst (tr.reverse.map V.ref))) wl = some (.lst (tr.reverse.map V.ref)) := upd_same
      have s1 := sU _ (.lst (tr.reverse.map V.ref)) sx
      have h1' : (upd H' wl (.lst (tr.reverse.map V.ref))) t = some (.tup [u, .str (aS p.2)]) := by rw [upd_ne (ne_of h1 eW (by intro z; cases z))]; exact h1
      have h2' := NestAt.updL (vs := tr.reverse.map V.ref) eW h2
      have h3' := WaitAt.updL (vs := tr.reverse.map V.ref) eW h3
      generalize upd H' wl (.lst (tr.reverse.map V.ref)) = H1 at eW1 s1 h1' h2' h3' ⊢
      have hsz : waitS (p :: r) = sizeN p.1 + waitS r := by simp [waitS]
      have hwz : waitW (p :: r) = words p.1 + waitW r := by simp [waitW]
      have hoz : waitOk (p :: r) = (valid p.2 p.1 && waitOk r) := by simp [waitOk]
      rw [hwz, hoz] at hok
      have hsp := size_pos p.1
      simp only [List.length_cons] at hcount
      have hlw := h3'.words
      obtain ⟨pn, po⟩ := p
      cases pn with
      | word =>
        have hu : u = .non := h2'
        subst hu
        refine ⟨_, rfl, t, _, 0, _, rfl, rfl, SqT.of h1', rfl, rfl, _, rfl, iteT ?_⟩
        refine ⟨_, rfl, _, _, rfl, rfl, ?_⟩
        refine ⟨r, tr, wd + 1, _, rfl, s1, eW1, h3', by rw [hsz]; omega, by omega, ?_⟩
        rw [hok]
        have : decide (wd + (words Nest.word + waitW r) ≤ 60) = decide (wd + 1 + waitW r ≤ 60) := by
          have : words Nest.word = 1 := by simp [words]
          rw [this]
          congr 1
          simp only [eq_iff_iff]
          omega
        rw [this]
        simp [valid]
      | bad =>
        obtain ⟨hu, hk⟩ := h2'
        refine ⟨_, rfl, t, _, 0, _, rfl, rfl, SqT.of h1', rfl, rfl, _, rfl, ?_⟩
        rw [decide_eq_false hu]
        refine iteF ⟨_, rfl, t, _, 0, _, rfl, rfl, SqT.of h1', rfl, u, rfl, .inl ⟨hk, fun H2 s2 => ⟨_, rfl, iteF (iteF ?_)⟩⟩⟩
        have : okN n = false := by rw [hok]; simp [valid]
        rw [this] at q
        exact q _ (s1.trans s2)
      | knot k ps =>
        obtain ⟨a, b, us, rfl, ea, eb, hu2, hu3, hps⟩ := h2'
        refine ⟨_, rfl, t, _, 0, _, rfl, rfl, SqT.of h1', rfl, rfl, _, rfl, iteF ?_⟩
        refine ⟨_, rfl, t, _, 0, _, rfl, rfl, SqT.of h1', rfl, _, rfl, .inr ⟨a, b, k, us, rfl, ea, eb, hu2, hu3, fun H2 s2 => ⟨_, rfl, iteT ?_⟩⟩⟩
        have h1'' := s2 _ _ h1'
        have ea' := s2 _ _ ea
        have eb' := s2 _ _ eb
        refine ⟨_, rfl, t, _, 0, _, rfl, rfl, SqT.of h1'', rfl, a, _, 0, _, rfl, rfl, SqT.of ea', rfl, _, rfl, t, _, 1, _, rfl, rfl, SqT.of h1'', rfl, rfl, _, rfl, ?_⟩
        rw [kS_ne]
        by_cases hsame : po = some k
        · rw [decide_eq_true hsame]
          refine iteF ?_
          have : okN n = false := by rw [hok]; simp [valid, hsame]
          rw [this] at q
          exact q _ (s1.trans s2)
        rw [decide_eq_false hsame]
        refine iteT ?_
        have eW2 := s2 _ _ eW1
        have S2 := s1.trans s2
        have hps' := NestsAt.mono s2 hps
        have h3'' := h3'.mono s2
        refine ⟨_, rfl, .inl ⟨rfl, _, SqL.of eW2⟩, _, rfl, t, _, 0, _, rfl, rfl, SqT.of h1'', rfl, a, _, 1, _, rfl, rfl, SqT.of ea', rfl, b, rfl, ⟨_, SqT.of eb'⟩, fun D hD => ?_⟩
        have hpl := hps'.len
        refine comp_inv (n := us.length) (fun i acc Hc => ∃ ts' : List Addr, acc = ts'.map V.ref ∧ ts'.length = i ∧ Hc D = some (.lst acc) ∧ Same H2 Hc ∧ WaitAt K Hc (within k (ps.take i)) ts') ⟨[], rfl, rfl, upd_same, same_upd hD, rfl⟩ ?_ (line1000 hu3) ?_ ?_ ?_
        · rintro i acc Hc ⟨ts', rfl, hl, e, _⟩
          exact ⟨e, by rw [List.length_map, hl]⟩
        · rintro i acc Hc hi ⟨ts', rfl, hl, e, sc, _⟩
          exact ⟨us, us[i], SqT.of (sc _ _ eb'), List.getElem?_eq_getElem hi⟩
        · rintro acc Hc ⟨ts', rfl, hl, e, sc, hw⟩
          refine ⟨⟨us, SqT.of (sc _ _ eb'), Nat.le_refl _⟩, ?_⟩
          rw [← hpl, List.take_length] at hw
          refine ⟨wl, D, _, _, rfl, rfl, sc _ _ eW2, e, line_mil (by simp; omega), ?_⟩
          have eWc := sc _ _ eW2
          refine ⟨(within k ps).reverse ++ r, ts'.reverse ++ tr, wd, _, rfl, sU _ _ (S2.trans sc), ?_, ?_, ?_, hwd, ?_⟩
          · rw [upd_same]
            simp
          · exact WaitAt.updL eWc (WaitAt.app hw.rev (h3''.mono sc))
          · rw [waitS_app, waitS_rev, within_s, hsz]
            simp only [sizeN]
            omega
          · rw [hok, waitW_app, waitW_rev, within_w, waitOk_app, waitOk_rev, within_ok]
            have hv : valid po (Nest.knot k ps) = validL k ps := by simp [valid, hsame]
            have hwk : words (Nest.knot k ps) = wordsL ps := by simp [words]
            show (valid po (Nest.knot k ps) && waitOk r && decide (wd + (words (Nest.knot k ps) + waitW r) ≤ 60)) = _
            rw [hv, hwk]
        · rintro i acc Hc y H5 R hi ⟨ts', rfl, hl, e, sc, hw⟩ ⟨rfl, hy⟩ hR
          have hyi := hy _ (SqT.of (sc _ _ eb'))
          obtain ⟨nn, hnn, hnv⟩ := hps'.get hyi
          refine ⟨_, rfl, _, rfl, t, _, 0, _, rfl, rfl, SqT.of (sc _ _ h1''), rfl, a, _, 0, _, rfl, rfl, SqT.of (sc _ _ ea'), rfl, (by show 2 ≤ sizeLine; decide), fun q1 hq1 => hR _ _ (same_upd hq1 _ _ e) ?_⟩
          refine ⟨ts' ++ [q1], by simp, by simp [hl], upd_same, fun b' o' e' => ?_, ?_⟩
          · rw [upd_ne (ne_of_none e' hD)]
            exact same_upd hq1 _ _ (sc _ _ e')
          · have hcat : within k (ps.take (i + 1)) = within k (ps.take i) ++ [(nn, some k)] := by
              rw [List.take_succ, hnn]
              simp [within]
            rw [hcat]
            refine WaitAt.updL (same_upd hq1 _ _ e) (WaitAt.app (hw.mono (same_upd hq1)) ⟨q1, [], y, rfl, upd_same, ?_, rfl⟩)
            exact (hnv.mono sc).mono (same_upd hq1)
theorem scMust : FnScope ["thing"] ["thing"] (defScope sMust) := ⟨rfl, rfl, rfl, by decide +kernel, rfl, by decide +kernel, by decide +kernel⟩
theorem ok_must {f fN C : Addr} {fd fdN : FuncData} (F : Fun K "must_be_nest" "must_be_nest" sMust f fd) (GN : FnOk P w K mg base CX0 2 fN fdN ["thing"] (spIsNest K)) (kN : PySem.W.keepIn K (.ref fN) = true) (mN : mg "is_nest" = some (.ref fN)) (bN : Binds K fdN ["thing"] [])
    (mC : mg "NoNest" = some (.ref C)) (xC : PySem.W.excIn K C bmVE "ValueError.__new__" = true) : FnOk P w K mg base (CXV P w) 3 f fd ["thing"] (spMust K C) := by
  refine funV F scMust (fun vs H Q E h => ?_) (fun cdv A outer s H vs Q E hr h => ?_)
  · obtain ⟨v, n, rfl, _⟩ := h; rfl
  · obtain ⟨v, n, rfl, hN, q, qE⟩ := h
    refine ⟨_, (pss_one (ps_if (pt_not (pt_val (pe_call GN hr (by rfl) mN kN bN .nil pass0 (pa_cons (pv 0) pa_nil)))) (pss_one (ps_raise throwV rfl (by rfl) mC xC (pa_cons pe_str pa_nil))) pss_nil)), ?_⟩
    refine ⟨_, rfl, v, n, rfl, hN, fun H1 s1 => ⟨_, rfl, ?_⟩⟩
    cases ho : okN n with
    | true => exact iteF (q ho _ s1)
    | false => exact iteT ⟨(by show 1 ≤ sizeLine; decide), qE ho _ s1⟩
theorem has_must {C : Addr} {mw : Tok} (D0 : Def K mg "is_nest" s_is_nest ["thing"]) (D1 : Def K mg "is_knot" s_is_knot ["thing"]) (D2 : Def K mg "must_be_nest" s_must_be_nest ["thing"]) (T : Txt mg) (mM : mg "MOST_WORDS" = some (.int 60 mw)) (mC : mg "NoNest" = some (.ref C)) (xC : PySem.W.excIn K C bmVE "ValueError.__new__" = true) :
    Has P w K mg base (CXV P w) 3 "must_be_nest" ["thing"] (spMust K C) := by
  obtain ⟨f0, fd0, F0, k0, m0, b0⟩ := D0.ex
  obtain ⟨f1, fd1, F1, k1, m1, b1⟩ := D1.ex
  obtain ⟨f2, fd2, F2, k2, m2, b2⟩ := D2.ex
  exact ⟨f2, fd2, ok_must F2 (ok_isnest F0 T (ok_knot F1 T) k1 m1 b1 mM) k0 m0 b0 mC xC, k2, m2, b2⟩
def cwComp (s : Stmt) : Scope := match (defBody s).getD 1 (.Pass ⟨0, 0, 0, 0⟩) with
  | .Return (some (.Call _ [.ListComp _ _ sc _] _ _)) _ => sc
  | _ => defScope s
theorem scCountW : FnScope ["nest"] ["nest"] (defScope sCountW) := ⟨rfl, rfl, rfl, by decide +kernel, rfl, by decide +kernel, by decide +kernel⟩
theorem csCountW : CScope (defScope sCountW) (cwComp sCountW) "part" ["part"] ["nest"] [] := cs_of (by decide +kernel)
theorem ok_countW {f : Addr} {fd : FuncData} (F : Fun K "count_words" "count_words" sCountW f fd) (T : Txt mg) (kS' : PySem.W.keepIn K (.ref f) = true) (mS : mg "count_words" = some (.ref f)) (bS : Binds K fd ["nest"] []) : ∀ d, FnOk P w K mg base CX0 d f fd ["nest"] (spCount K words d)
  | 0 => ⟨fun vs H Q E ⟨_, _, _, _, _, _, h, _⟩ => absurd h (Nat.not_lt_zero _), fun A outer s H args us vs Q E _ _ _ _ ⟨_, _, _, _, _, _, h, _⟩ => absurd h (Nat.not_lt_zero _)⟩
  | d + 1 => by
    have G := ok_countW F T kS' mS bS d
    refine F.ok scCountW (fun vs H Q E h => ?_) (fun cdv A outer s H vs Q E hr h => ?_)
    · obtain ⟨v, n, o, rfl, _⟩ := h; rfl
    · obtain ⟨v, n, o, rfl, hN, hv, hd, q⟩ := h
      refine ⟨_, (pss_cons (ps_if (pt_cmpR op_isN (pv 0) pe_non (nomark _)) (pss_one (ps_ret pe_int)) pss_nil)
      (pss_one (ps_ret (pe_callB (call_sumL rfl) (by rfl) T.sum boot_sum (pa_cons (pe_comp rfl csCountW rfl (pi_tup (pe_ix ix_tup (pv 0) pe_int (fun _ _ => rfl))) (fun cl C fp s H => pg_name (i := 0) csCountW.nd rfl (Or.inl rfl)) (fun cl C fp s H => pts_nil) (fun cl C fp s H => pe_call G hr (by rfl) mS kS' bS .nil pass0 (pa_cons (pv 0) pa_nil))) pa_nil))))), ?_⟩
      cases n with
      | word =>
        have e : v = .non := hN
        subst e
        exact ⟨_, rfl, rfl, _, rfl, iteT (q _ (Same.refl _))⟩
      | bad => exact absurd hv (by simp [valid])
      | knot k ps =>
        obtain ⟨a, b, us, rfl, ea, eb, hu2, hu3, hps⟩ := hN
        have hpl := hps.len
        have hvp : validL k ps = true := by simp only [valid, Bool.and_eq_true] at hv; exact hv.2
        refine ⟨_, rfl, rfl, _, rfl, iteF ?_⟩
        refine ⟨_, rfl, a, _, 1, _, rfl, rfl, SqT.of ea, rfl, b, rfl, ⟨_, SqT.of eb⟩, fun D hD => ?_⟩
        refine comp_inv (n := us.length) (fun i acc Hc => acc = ((ps.take i).map fun n => ((words n : Nat) : Int)).map V.int ∧ Hc D = some (.lst acc) ∧ Same H Hc ∧ i ≤ us.length) ⟨rfl, upd_same, same_upd hD, Nat.zero_le _⟩ ?_ (line1000 hu3) ?_ ?_ ?_
        · rintro i acc Hc ⟨rfl, e, _, hi⟩
          exact ⟨e, by simp; omega⟩
        · rintro i acc Hc hi ⟨rfl, e, sc, _⟩
          exact ⟨us, us[i], SqT.of (sc _ _ eb), List.getElem?_eq_getElem hi⟩
        · rintro acc Hc ⟨rfl, e, sc, _⟩
          refine ⟨⟨us, SqT.of (sc _ _ eb), Nat.le_refl _⟩, ?_⟩
          rw [← hpl, List.take_length] at e
          refine ⟨D, _, rfl, SqL.of e, ?_⟩
          rw [wordsL_sum]
          exact q _ sc
        · rintro i acc Hc y H5 R hi ⟨rfl, e, sc, _⟩ ⟨rfl, hy⟩ hR
          obtain ⟨nn, hnn, hnv⟩ := hps.get (hy _ (SqT.of (sc _ _ eb)))
          have hdn := depthL_get hnn
          simp only [depthN] at hd
          refine ⟨_, rfl, y, nn, some k, rfl, hnv.mono sc, validL_get hvp hnn, by omega, fun H6 s6 => hR _ _ (s6 _ _ e) ⟨?_, upd_same, fun b' o' e' => ?_, hi⟩⟩
          · rw [List.take_succ, hnn, List.map_append, List.map_append]
            rfl
          · rw [upd_ne (ne_of_none e' hD)]
            exact s6 _ _ (sc _ _ e')
theorem has_countw (D : Def K mg "count_words" s_count_words ["nest"]) (T : Txt mg) (d : Nat) : Has P w K mg base CX0 d "count_words" ["nest"] (spCount K words d) := by
  obtain ⟨f, fd, F, k, m, b⟩ := D.ex
  exact ⟨f, fd, ok_countW F T k m b d, k, m, b⟩
abbrev ns_is_of_kind : List Str := ["nest", "kind"]
theorem sc_is_of_kind : FnScope ns_is_of_kind ["nest", "kind"] (defScope s_is_of_kind) := ⟨rfl, rfl, rfl, by decide +kernel, rfl, by decide +kernel, by decide +kernel⟩
theorem ok_ofkind (D : Def K mg "is_of_kind" s_is_of_kind ["nest", "kind"]) : Has P w K mg base CX0 1 "is_of_kind" ["nest", "kind"] (spOfKind K) := by
  refine D.ok sc_is_of_kind (fun vs H Q E h => ?_) (fun f cdv A outer s H vs Q E hr h => ?_)
  · obtain ⟨v, n, o, k, rfl, _⟩ := h; rfl
  · obtain ⟨v, n, o, k, rfl, hN, hv, q⟩ := h
    refine ⟨_, (pss_one (ps_ret (pe_and (pe_cmpR op_notN (pv 0) pe_non (nomark _)) (pe_one (pe_cmpR op_eq (pe_ix ix_tup (pv 0) pe_int (fun _ _ => rfl)) (pv 1) (nomark _)))))), ?_⟩
    cases n with
    | word =>
      have e : v = .non := hN
      subst e
      exact ⟨_, rfl, rfl, _, rfl, iteF q⟩
    | bad => simp [valid] at hv
    | knot k2 ps =>
      obtain ⟨a, b, us, rfl, ea, _⟩ := hN
      refine ⟨_, rfl, rfl, _, rfl, iteT ⟨_, rfl, a, _, 0, _, rfl, rfl, SqT.of ea, rfl, _, rfl, rfl, ?_⟩⟩
      have e : decide (V.str (kS k2) = V.str (kS k)) = ofK k (.knot k2 ps) := by
        show _ = decide (k2 = k)
        cases k <;> cases k2 <;> decide +kernel
      rw [e]
      exact q
abbrev ns_shared_out : List Str := ["nest", "things", "shares", "first", "part", "behind"]
theorem sc_shared_out : FnScope ns_shared_out ["nest", "things"] (defScope s_shared_out) := ⟨rfl, rfl, rfl, by decide +kernel, rfl, by decide +kernel, by decide +kernel⟩
theorem ok_shared (D : Def K mg "shared_out" s_shared_out ["nest", "things"]) (d : Nat) (h_count_words : Has P w K mg base CX0 d "count_words" ["nest"] (spCount K words d)) : Has P w K mg base CX0 (d + 1) "shared_out" ["nest", "things"] (spShared K d) := by
  refine D.ok sc_shared_out (fun vs H Q E h => ?_) (fun f cdv A outer s H vs Q E hr h => ?_)
  · obtain ⟨a, l, k, ps, xs, rfl, _⟩ := h; rfl
  · obtain ⟨a, l, k, ps, xs, rfl, hN, hvp, hd, hl, hz, hw, q⟩ := h
    obtain ⟨a', b, us, e0, ea, eb, hu2, hu3, hps⟩ := hN
    cases e0
    have hpl := hps.len
    refine go_c (ps_set (i := 2) sc_shared_out.nd rfl (Or.inl rfl) (pe_lst pa_nil)) ?_
    intro t0'
    refine go_c (ps_set (i := 3) sc_shared_out.nd rfl (Or.inl rfl) pe_int) ?_
    intro t1'
    refine go_c (ps_for PassesOwn.never rfl (pi_tup (pe_ix ix_tup (pv 0) pe_int (fun _ _ => rfl))) (pg_name (i := 4) sc_shared_out.nd rfl (Or.inl rfl)) (pss_cons (ps_set (i := 5) sc_shared_out.nd rfl (Or.inl rfl) (pe_op op_add (pv 3) (pe_has h_count_words hr (by rfl) pass0 (pa_cons (pv 4) pa_nil))))
      (pss_cons (ps_expr (pe_bm PySem.F.plainAttrs_list PySem.F.slot_list_append PySem.F.type_list_append mt_append (pv 2) (pa_cons (pe_slice sl_list (pv 1) (po_some (pv 3)) (po_some (pv 5))) pa_nil)))
      (pss_one (ps_set (i := 3) sc_shared_out.nd rfl (Or.inl rfl) (pv 5)))))) ?_
    intro t2'
    refine go_1 (ps_ret (pv 2)) ?_
    intro t3'
    refine ⟨(by show 0 ≤ sizeLine; omega), fun sh hsh => ?_⟩
    have s1 := same_upd (o := .lst []) hsh
    have sU : ∀ (G : Hp) (o : HO), Same H G → Same H (upd G sh o) := fun G o h b ob e => by rw [upd_ne (ne_of_none e hsh)]; exact h b ob e
    refine ⟨_, rfl, a, _, 1, _, rfl, rfl, SqT.of (s1 _ _ ea), rfl, b, rfl, ⟨_, SqT.of (s1 _ _ eb)⟩, ?_⟩
    refine for_tup (K := K) (a := b) (xs := us) (fun i σ Hx => ∃ (rs : List Addr) (v4 v5 : Option V), σ = [some (.ref a), some (.ref l), some (.ref sh), some (.int (ahead ps i : Nat)), v4, v5] ∧ Same H Hx ∧ Hx sh = some (.lst (rs.map V.ref)) ∧ VLs Hx rs ((shareL ps xs).take i) ∧ sh ∉ rs ∧ i ≤ us.length)
      ⟨[], none, none, rfl, s1, upd_same, .nil, by simp, Nat.zero_le _⟩ (fun i σ Hx _ ⟨_, _, _, _, sx, _⟩ => SqT.of (sx _ _ eb)) ?_ ?_
    · rintro i y σ Hx hi ⟨rs, v4, v5, rfl, sx, eS, hL, hnr, hiu⟩
      obtain ⟨nn, hnn, hnv⟩ := hps.get hi
      have hil : i < us.length := (List.getElem?_eq_some_iff.mp hi).1
      have hdn := depthL_get hnn
      have hvn := validL_get hvp hnn
      have hrl : rs.length = i := by
        rw [hL.len, List.length_take, shareL_len]
        omega
      refine ⟨_, rfl, _, rfl, y, nn, some k, rfl, hnv.mono sx, hvn, by omega, fun H2 s2 => ⟨_, _, rfl, rfl, ?_⟩⟩
      have s3 := sx.trans s2
      have eS2 := s2 _ _ eS
      refine ⟨_, rfl, .inl ⟨rfl, _, SqL.of eS2⟩, _, rfl, _, rfl, (ahead ps i : Nat), rfl, _, rfl, ((ahead ps i : Nat) + (words nn : Nat) : Int), rfl, l, _, rfl, s3.seq hl, fun np hnp => ?_⟩
      have hcut : cutV xs (some (ahead ps i : Nat)) (some ((ahead ps i : Nat) + (words nn : Nat) : Int)) = (xs.drop (ahead ps i)).take (words nn) := by
        have h1 := ahead_le ps (i + 1)
        rw [ahead_succ hnn] at h1
        unfold cutV
        rw [show ((ahead ps i : Nat) + (words nn : Nat) : Int) = ((ahead ps i + words nn : Nat) : Int) by omega, HT.sIx_nat, HT.sIx_nat]
        rw [Nat.min_eq_left (by omega), Nat.min_eq_left (by omega)]
        congr 1
        omega
      rw [hcut]
      have s4 := same_upd (o := .lst ((xs.drop (ahead ps i)).take (words nn))) hnp
      have enp : (upd H2 np (.lst ((xs.drop (ahead ps i)).take (words nn)))) np = some (.lst ((xs.drop (ahead ps i)).take (words nn))) := upd_same
      generalize upd H2 np (.lst ((xs.drop (ahead ps i)).take (words nn))) = H3 at s4 enp ⊢
      have nsp : np ≠ sh := fun z => by rw [z, eS2] at hnp; cases hnp
      refine ⟨sh, _, _, rfl, rfl, s4 _ _ eS2, small1000 (by rw [List.length_map]; omega), ?_⟩
      refine ⟨_, rfl, ?_⟩
      refine ⟨rs ++ [np], _, _, by rw [ahead_succ hnn]; rfl, sU _ _ (s3.trans s4), by rw [upd_same, List.map_append]; rfl, ?_, ?_, by omega⟩
      · rw [shareL_take hnn]
        exact VLs.app (VLs.upd hnr (hL.mono (s2.trans s4))) (.cons (by rw [upd_ne nsp]; exact enp) .nil)
      · simp only [List.mem_append, List.mem_singleton, not_or]
        exact ⟨hnr, nsp.symm⟩
    · rintro σ Hx ⟨rs, v4, v5, rfl, sx, eS, hL, hnr, hiu⟩
      rw [List.take_of_length_le (by rw [shareL_len]; omega)] at hL
      exact ⟨_, rfl, q sh rs Hx hsh eS hL sx⟩
theorem has_make {C : Addr} {mw : Tok} (D0 : Def K mg "is_whole" s_is_whole ["thing"]) (D1 : Def K mg "are_different_below" s_are_different_below ["things", "bound"]) (D3 : Def K mg "make_order" s_make_order ["numbers"]) (T : Txt mg) (mC : mg "NoOrder" = some (.ref C)) (xC : PySem.W.excIn K C bmVE "ValueError.__new__" = true) (mM : mg "MOST_WORDS" = some (.int 60 mw)) :
    Has P w K mg base (CXV P w) 3 "make_order" ["numbers"] (spMake K C) := by
  obtain ⟨f0, fd0, F0, k0, m0, b0⟩ := D0.ex
  obtain ⟨f1, fd1, F1, k1, m1, b1⟩ := D1.ex
  obtain ⟨f3, fd3, F3, k3, m3, b3⟩ := D3.ex
  exact ⟨f3, fd3, ok_make F3 T (ok_diff F1 (ok_whole F0 T) k0 m0 b0) k1 m1 b1 mC xC mM, k3, m3, b3⟩
abbrev ns_cuts : List Str := ["order", "rising", "falling", "least", "greatest", "place"]
theorem sc_cuts : FnScope ns_cuts ["order"] (defScope s_cuts) := ⟨rfl, rfl, rfl, by decide +kernel, rfl, by decide +kernel, by decide +kernel⟩
theorem ok_cuts (D : Def K mg "cuts" s_cuts ["order"]) (T : Txt mg) : Has P w K mg base CX0 1 "cuts" ["order"] (spCuts K) := by
  refine D.ok sc_cuts (fun vs H Q E h => ?_) (fun f cdv A outer s H vs Q E hr h => ?_)
  · obtain ⟨o, ord, rfl, _⟩ := h; rfl
  · obtain ⟨o, ord, rfl, hT, hO, h1, hz, q⟩ := h
    refine go_c (ps_set (i := 1) sc_cuts.nd rfl (Or.inl rfl) (pe_lst pa_nil)) ?_
    intro t0'
    refine go_c (ps_set (i := 2) sc_cuts.nd rfl (Or.inl rfl) (pe_lst pa_nil)) ?_
    intro t1'
    refine go_c (ps_set (i := 3) sc_cuts.nd rfl (Or.inl rfl) (pe_callB call_len_seq (by rfl) T.b.len PySem.boot_len (pa_cons (pv 0) pa_nil))) ?_
    intro t2'
    refine go_c (ps_set (i := 4) sc_cuts.nd rfl (Or.inl rfl) (pe_un un_neg pe_int)) ?_
    intro t3'
    refine go_c (ps_for PassesOwn.never rfl (pi_range2 rfl T.b.rng (pa_cons pe_int (pa_cons (pe_callB call_len_seq (by rfl) T.b.len PySem.boot_len (pa_cons (pv 0) pa_nil)) pa_nil))) (pg_name (i := 5) sc_cuts.nd rfl (Or.inl rfl)) (pss_cons (ps_set (i := 3) sc_cuts.nd rfl (Or.inl rfl) (pe_callB (call_min2 rfl) (by rfl) T.min boot_min (pa_cons (pv 3) (pa_cons (pe_ix ix_tup (pv 0) (pe_op op_sub (pv 5) pe_int) (fun _ _ => rfl)) pa_nil))))
      (pss_cons (ps_set (i := 4) sc_cuts.nd rfl (Or.inl rfl) (pe_callB (call_max2 rfl) (by rfl) T.max boot_max (pa_cons (pv 4) (pa_cons (pe_ix ix_tup (pv 0) (pe_op op_sub (pv 5) pe_int) (fun _ _ => rfl)) pa_nil))))
      (pss_cons (ps_if (pt_cmpR op_eq (pv 4) (pe_op op_sub (pv 5) pe_int) (nomark _)) (pss_one (ps_expr (pe_bm PySem.F.plainAttrs_list PySem.F.slot_list_append PySem.F.type_list_append mt_append (pv 1) (pa_cons (pv 5) pa_nil)))) pss_nil)
      (pss_one (ps_if (pt_cmpR op_eq (pv 3) (pe_op op_sub (pe_callB call_len_seq (by rfl) T.b.len PySem.boot_len (pa_cons (pv 0) pa_nil)) (pv 5)) (nomark _)) (pss_one (ps_expr (pe_bm PySem.F.plainAttrs_list PySem.F.slot_list_append PySem.F.type_list_append mt_append (pv 2) (pa_cons (pv 5) pa_nil)))) pss_nil)))))) ?_
    intro t4'
    refine go_c (ps_if (pt_truth (pv 1) (fun _ => rfl)) (pss_one (ps_ret (pe_tup (pa_cons pe_str (pa_cons (pe_callTy call_tuple_of (by rfl) T.b.tup boot_ty_tuple (pa_cons (pv 1) pa_nil)) pa_nil))))) pss_nil) ?_
    intro t5'
    refine go_c (ps_if (pt_truth (pv 2) (fun _ => rfl)) (pss_one (ps_ret (pe_tup (pa_cons pe_str (pa_cons (pe_callTy call_tuple_of (by rfl) T.b.tup boot_ty_tuple (pa_cons (pv 2) pa_nil)) pa_nil))))) pss_nil) ?_
    intro t6'
    refine go_1 (ps_ret (pe_tup (pa_cons pe_str (pa_cons (pe_tup pa_nil) pa_nil)))) ?_
    intro t7'
    have hln : (ord.map V.int).length = ord.length := List.length_map ..
    refine ⟨(by show 0 ≤ sizeLine; omega), fun rp hrp => ⟨(by show 0 ≤ sizeLine; omega), fun fp hfp => ?_⟩⟩
    have nrf : rp ≠ fp := ne_of_none upd_same hfp
    have hfp0 : H fp = none := (same_upd hrp).free hfp
    have s1 : Same H (upd (upd H rp (.lst [])) fp (.lst [])) := (same_upd hrp).trans (same_upd hfp)
    have eR1 : (upd (upd H rp (.lst [])) fp (.lst [])) rp = some (.lst []) := by rw [upd_ne nrf]; exact upd_same
    have eF1 : (upd (upd H rp (.lst [])) fp (.lst [])) fp = some (.lst []) := upd_same
    generalize upd (upd H rp (.lst [])) fp (.lst []) = H1 at s1 eR1 eF1 ⊢
    refine ⟨_, rfl, o, _, rfl, .inr (s1.sqt hT), ?_⟩
    rw [hln]
    refine ⟨_, rfl, ?_⟩
    refine ⟨_, rfl, o, _, rfl, .inr (s1.sqt hT), 1, (ord.length : Int), (by rw [hln]), ⟨by decide, by decide, by omega, by omega⟩, ?_⟩
    rw [show ((ord.length : Int) - 1).toNat = ord.length - 1 by omega]
    refine for_range (n := ord.length - 1) (lo := 1) (fun i σ Hx => ∃ v5 : Option V, σ = [some (.ref o), some (.ref rp), some (.ref fp), some (.int (mnL ord.length (ord.take i))), some (.int (mxL (ord.take i))), v5] ∧ Same H Hx ∧ Hx rp = some (.lst (natV (places ord (upB ord) i))) ∧ Hx fp = some (.lst (natV (places ord (dnB ord) i))))
      ⟨none, rfl, s1, eR1, eF1⟩ ?_ ?_
    · rintro i σ Hx hi ⟨v5, rfl, sx, eR, eF⟩
      have hil : i < ord.length := by omega
      have hg : ord[i]? = some ord[i] := List.getElem?_eq_getElem hil
      have hat : atI (ord.map V.int) (1 + (i : Int) - 1) = some (V.int ord[i]) := by
        rw [show 1 + (i : Int) - 1 = (i : Int) by omega]
        exact at_ints hg
      have htk : ord.take (i + 1) = ord.take i ++ [ord[i]] := by rw [List.take_succ, hg]; rfl
      refine ⟨_, rfl, _, rfl, _, rfl, _, _, rfl, rfl, o, _, _, _, rfl, rfl, sx.sqt hT, hat, _, _, rfl, ?_⟩
      refine ⟨_, rfl, _, rfl, _, rfl, _, _, rfl, rfl, o, _, _, _, rfl, rfl, sx.sqt hT, hat, _, _, rfl, ?_⟩
      have emx : (if ord[i] > mxL (ord.take i) then ord[i] else mxL (ord.take i)) = mxL (ord.take (i + 1)) := by rw [htk, mxL_snoc]; rfl
      have emn : (if ord[i] < mnL ord.length (ord.take i) then ord[i] else mnL ord.length (ord.take i)) = mnL ord.length (ord.take (i + 1)) := by rw [htk, mnL_snoc]; rfl
      refine gname_go ?_
      dsimp only [List.set]
      rw [emx, emn]
      refine seq_if (fun σ' Hy => σ' = [some (.ref o), some (.ref rp), some (.ref fp), some (.int (mnL ord.length (ord.take (i + 1)))), some (.int (mxL (ord.take (i + 1)))), some (.int (1 + (i : Int)))] ∧ Same H Hy ∧ Hy rp = some (.lst (natV (places ord (upB ord) (i + 1)))) ∧ Hy fp = some (.lst (natV (places ord (dnB ord) i)))) ?_ fun hrest => ?_
      · rintro σ' Hy ⟨rfl, sy, eR', eF'⟩
        refine ⟨_, rfl, _, rfl, o, _, rfl, .inr (sy.sqt hT), _, rfl, _, _, rfl, rfl, rfl, _, rfl, ?_⟩
        rw [hln]
        have hd : decide (V.int (mnL ord.length (ord.take (i + 1))) = V.int ((ord.length : Int) - (1 + (i : Int)))) = dnB ord (i + 1) := by
          rw [← mn_dn hO (by omega) (by omega), show ((i + 1 : Nat) : Int) = 1 + (i : Int) by omega]
          by_cases e : mnL ord.length (ord.take (i + 1)) = (ord.length : Int) - (1 + (i : Int))
          · rw [e, decide_eq_true rfl, decide_eq_true rfl]
          · rw [decide_eq_false e, decide_eq_false (fun z => e (V.int.inj z))]
        rw [hd]
        cases hb : dnB ord (i + 1) with
        | true =>
          refine iteT ⟨_, rfl, .inl ⟨rfl, _, SqL.of eF'⟩, _, rfl, fp, _, _, rfl, rfl, eF', ?_, ?_⟩
          · have := places_len ord (dnB ord) i
            unfold natV; rw [List.length_map]; exact small1000 (by omega)
          · refine ⟨_, rfl, fun b ob e => by rw [upd_ne (ne_of_none e hfp0)]; exact sy b ob e, by rw [upd_ne nrf]; exact eR', ?_⟩
            rw [upd_same, places_succ, hb, if_pos rfl]
            unfold natV
            rw [List.map_append]
            show _ = some (HO.lst (_ ++ [V.int ((i + 1 : Nat) : Int)]))
            rw [show ((i + 1 : Nat) : Int) = 1 + (i : Int) by omega]
        | false =>
          refine iteF ⟨_, rfl, sy, eR', ?_⟩
          rw [places_succ, hb, if_neg Bool.false_ne_true, List.append_nil]
          exact eF'
      · refine ⟨_, rfl, _, rfl, _, _, rfl, rfl, rfl, _, rfl, ?_⟩
        have hd : decide (V.int (mxL (ord.take (i + 1))) = V.int (1 + (i : Int) - 1)) = upB ord (i + 1) := by
          rw [← mx_up hO (by omega) (by omega), show ((i + 1 : Nat) : Int) - 1 = 1 + (i : Int) - 1 by omega]
          by_cases e : mxL (ord.take (i + 1)) = 1 + (i : Int) - 1
          · rw [e, decide_eq_true rfl, decide_eq_true rfl]
          · rw [decide_eq_false e, decide_eq_false (fun z => e (V.int.inj z))]
        rw [hd]
        cases hb : upB ord (i + 1) with
        | true =>
          refine iteT ⟨_, rfl, .inl ⟨rfl, _, SqL.of eR⟩, _, rfl, rp, _, _, rfl, rfl, eR, ?_, hrest _ _ ?_⟩
          · have := places_len ord (upB ord) i
            unfold natV; rw [List.length_map]; exact small1000 (by omega)
          · refine ⟨rfl, fun b ob e => by rw [upd_ne (ne_of_none e hrp)]; exact sx b ob e, ?_, by rw [upd_ne nrf.symm]; exact eF⟩
            rw [upd_same, places_succ, hb, if_pos rfl]
            unfold natV
            rw [List.map_append]
            show _ = some (HO.lst (_ ++ [V.int ((i + 1 : Nat) : Int)]))
            rw [show ((i + 1 : Nat) : Int) = 1 + (i : Int) by omega]
        | false =>
          refine iteF (hrest _ _ ⟨rfl, sx, ?_, eF⟩)
          rw [places_succ, hb, if_neg Bool.false_ne_true, List.append_nil]
          exact eR
    · rintro σ Hx ⟨v5, rfl, sx, eR, eF⟩
      have eR : Hx rp = some (.lst (natV (risF ord))) := eR
      have eF : Hx fp = some (.lst (natV (falF ord))) := eF
      refine ⟨_, rfl, !(natV (risF ord)).isEmpty, .inl ⟨_, SqL.of eR, rfl⟩, ?_⟩
      unfold cutF at q
      by_cases hR : risF ord = []
      · rw [if_pos hR] at q
        rw [hR]
        refine iteF ⟨_, rfl, !(natV (falF ord)).isEmpty, .inl ⟨_, SqL.of eF, rfl⟩, ?_⟩
        by_cases hF : falF ord = []
        · rw [if_pos hF] at q
          rw [hF]
          refine iteF ⟨(by show 0 ≤ sizeLine; omega), fun p hp => ⟨(by show 2 ≤ sizeLine; decide), fun t ht => ?_⟩⟩
          exact q t p _ (sx.free ((same_upd hp).free ht)) (sx.free hp) ⟨upd_same, same_upd ht _ _ upd_same⟩ (sx.trans ((same_upd hp).trans (same_upd ht)))
        · rw [if_neg hF] at q
          have : (!(natV (falF ord)).isEmpty) = true := by
            cases hh : falF ord with
            | nil => exact absurd hh hF
            | cons _ _ => rfl
          rw [this]
          refine iteT ⟨_, rfl, fp, _, rfl, .inl ⟨SqL.of eF, fun p hp => ⟨(by show 2 ≤ sizeLine; decide), fun t ht => ?_⟩⟩⟩
          exact q t p _ (sx.free ((same_upd hp).free ht)) (sx.free hp) ⟨upd_same, same_upd ht _ _ upd_same⟩ (sx.trans ((same_upd hp).trans (same_upd ht)))
      · rw [if_neg hR] at q
        have : (!(natV (risF ord)).isEmpty) = true := by
          cases hh : risF ord with
          | nil => exact absurd hh hR
          | cons _ _ => rfl
        rw [this]
        refine iteT ⟨_, rfl, rp, _, rfl, .inl ⟨SqL.of eR, fun p hp => ⟨(by show 2 ≤ sizeLine; decide), fun t ht => ?_⟩⟩⟩
        exact q t p _ (sx.free ((same_upd hp).free ht)) (sx.free hp) ⟨upd_same, same_upd ht _ _ upd_same⟩ (sx.trans ((same_upd hp).trans (same_upd ht)))
theorem has_left {C : Addr} (D0 : Def K mg "is_whole" s_is_whole ["thing"]) (D1 : Def K mg "are_different_below" s_are_different_below ["things", "bound"]) (D2 : Def K mg "left_of" s_left_of ["order", "words"]) (D3 : Def K mg "must_be_words" s_must_be_words ["words", "many"]) (T : Txt mg) (mC : mg "NoWords" = some (.ref C)) (xC : PySem.W.excIn K C bmVE "ValueError.__new__" = true) :
    Has P w K mg base (CXV P w) 4 "left_of" ["order", "words"] (spLeft K C) := by
  obtain ⟨f0, fd0, F0, k0, m0, b0⟩ := D0.ex
  obtain ⟨f1, fd1, F1, k1, m1, b1⟩ := D1.ex
  obtain ⟨f2, fd2, F2, k2, m2, b2⟩ := D2.ex
  obtain ⟨f3, fd3, F3, k3, m3, b3⟩ := D3.ex
  exact ⟨f2, fd2, ok_left F2 T (ok_mbw F3 T (ok_diff F1 (ok_whole F0 T) k0 m0 b0) k1 m1 b1 mC xC) k3 m3 b3, k2, m2, b2⟩
abbrev ns_stretches : List Str := ["order", "places", "firsts", "behinds"]
theorem sc_stretches : FnScope ns_stretches ["order", "places"] (defScope s_stretches) := ⟨rfl, rfl, rfl, by decide +kernel, rfl, by decide +kernel, by decide +kernel⟩
def cp_stretches_0 (s : Stmt) : Scope := match (defBody s).getD 2 (.Pass ⟨0, 0, 0, 0⟩) with
  | .Return (some (.ListComp _ _ sc _)) _ => sc
  | _ => defScope s
theorem cs_stretches_0 : CScope2 (defScope s_stretches) (cp_stretches_0 s_stretches) "first" "behind" ["first", "behind", "order"] ns_stretches [0] := cs2_of (by decide +kernel)
theorem ok_stretches (D : Def K mg "stretches" s_stretches ["order", "places"]) (T : Txt mg) : Has P w K mg base CX0 1 "stretches" ["order", "places"] (spStretch K) := by
  refine D.ok sc_stretches (fun vs H Q E h => ?_) (fun f cdv A outer s H vs Q E hr h => ?_)
  · obtain ⟨o, p, ord, ps, rfl, _⟩ := h; rfl
  · obtain ⟨o, p, ord, ps, rfl, hT, hP, hA, hne, h1, hz, q⟩ := h
    refine go_c (ps_set (i := 2) sc_stretches.nd rfl (Or.inl rfl) (pe_op op_catA (pe_tup (pa_cons pe_int pa_nil)) (pv 1))) ?_
    intro t0'
    refine go_c (ps_set (i := 3) sc_stretches.nd rfl (Or.inl rfl) (pe_op op_catA (pv 1) (pe_tup (pa_cons (pe_callB call_len_seq (by rfl) T.b.len PySem.boot_len (pa_cons (pv 0) pa_nil)) pa_nil)))) ?_
    intro t1'
    refine go_1 (ps_ret (pe_comp2 rfl cs_stretches_0 rfl (pi_zipTT rfl T.zip (pa_cons (pv 2) (pa_cons (pv 3) pa_nil))) (fun cl C fp s H => show PG _ _ (gTup K 2 (gCons (gName 0) (gCons (gName 1) gNil))) from pg_tup rfl (pgs_cons (pg_name (i := 0) cs_stretches_0.nd rfl (Or.inl rfl) (Or.inr cs_stretches_0.own)) (pgs_cons (pg_name (i := 1) cs_stretches_0.nd rfl (Or.inl rfl) (Or.inr cs_stretches_0.own2)) pgs_nil))) (fun cl C fp s H => pts_nil) (fun cl C fp s H => (pe_callTy (r := rLstOf K) call_list_of (by rfl) T.b.lst boot_ty_list (pa_cons (pe_slice (r := rSlT K) sl_tup (pv 2) (po_some (pv 0)) (po_some (pv 1))) pa_nil))))) ?_
    intro t2'
    have hln : (ord.map V.int).length = ord.length := List.length_map ..
    have hnl : (natV ps).length = ps.length := List.length_map ..
    have hpl : ps.length ≤ ord.length := by
      have : ps.length ≤ (List.range ord.length).length := by
        refine (List.Nodup.sublist (l₁ := ps) (l₂ := ps) (List.Sublist.refl _) (hA.1.imp fun h => Nat.ne_of_lt h)).length_le_of_subset ?_
        intro x hx
        exact List.mem_range.mpr (hA.2 x hx).2
      simpa using this
    have hne2 : natV ps ≠ [] := fun z => hne (List.map_eq_nil_iff.mp z)
    refine ⟨(by show 1 ≤ sizeLine; decide), fun t1 ht1 => ?_⟩
    have s1 := same_upd (o := .tup [V.int 0]) ht1
    refine ⟨_, rfl, t1, p, [V.int 0], natV ps, rfl, rfl, SqT.of upd_same, SqT.of (s1 _ _ hP), line1000 (by show 1 + (natV ps).length ≤ 1000; omega), .inr (.inr ⟨(fun z => nomatch z), hne2, fun fa hfa => ?_⟩)⟩
    have s2 := s1.trans (same_upd (o := .tup ([V.int 0] ++ natV ps)) hfa)
    have e2 : (upd (upd H t1 (.tup [V.int 0])) fa (.tup ([V.int 0] ++ natV ps))) fa = some (.tup (natV (firstsF ps))) := upd_same
    generalize upd (upd H t1 (.tup [V.int 0])) fa (.tup ([V.int 0] ++ natV ps)) = H2 at s2 e2 ⊢
    refine ⟨_, rfl, _, rfl, o, _, rfl, .inr (s2.sqt hT), (by show 1 ≤ sizeLine; decide), fun t2 ht2 => ?_⟩
    have s3 := s2.trans (same_upd (o := .tup [V.int ((ord.map V.int).length : Int)]) ht2)
    have e3 := same_upd (o := .tup [V.int ((ord.map V.int).length : Int)]) ht2 _ _ e2
    refine ⟨p, t2, natV ps, [V.int ((ord.map V.int).length : Int)], rfl, rfl, SqT.of (s3 _ _ hP), SqT.of upd_same, line1000 (by show (natV ps).length + 1 ≤ 1000; omega), .inr (.inr ⟨hne2, (fun z => nomatch z), fun ba hba => ?_⟩)⟩
    have ebh : natV ps ++ [V.int ((ord.map V.int).length : Int)] = natV (behindsF ord.length ps) := by
      unfold natV behindsF
      rw [List.map_append, hln]
      rfl
    rw [ebh]
    have s4 := s3.trans (same_upd (o := .tup (natV (behindsF ord.length ps))) hba)
    have e4 := same_upd (o := .tup (natV (behindsF ord.length ps))) hba _ _ e3
    have e5 : (upd (upd H2 t2 (.tup [V.int ((ord.map V.int).length : Int)])) ba (.tup (natV (behindsF ord.length ps)))) ba = some (.tup (natV (behindsF ord.length ps))) := upd_same
    generalize upd (upd H2 t2 (.tup [V.int ((ord.map V.int).length : Int)])) ba (.tup (natV (behindsF ord.length ps))) = G at s4 e4 e5 ⊢
    refine ⟨_, rfl, _, rfl, fa, ba, _, _, rfl, e4, e5, fun D hD => ?_⟩
    have gN : ∀ {l : List Nat} {i : Nat} {x : V}, (natV l)[i]? = some x → ∃ n, l[i]? = some n ∧ x = V.int (n : Int) := fun {l i x} h => by
      unfold natV at h
      rw [List.getElem?_map] at h
      cases hl : l[i]? with
      | none => rw [hl] at h; cases h
      | some n => rw [hl] at h; exact ⟨n, rfl, (Option.some.inj h).symm⟩
    have lenF : (natV (firstsF ps)).length = ps.length + 1 := by unfold natV firstsF; simp
    have lenB : (natV (behindsF ord.length ps)).length = ps.length + 1 := by unfold natV behindsF; simp
    refine comp_pairs (K := K) (n := ps.length + 1) (fun i acc H' => H' D = some (.lst acc) ∧ acc.length = i ∧ Same G H' ∧ ∃ qs : List Addr, acc = qs.map V.ref ∧ LstsAt H' qs ((stretchF ord ps).take i) ∧ (∀ x ∈ qs, G x = none) ∧ D ∉ qs) ⟨upd_same, rfl, same_upd hD, [], rfl, .nil, (fun _ h => nomatch h), (fun h => nomatch h)⟩ (fun i acc H' h => ⟨h.1, h.2.1⟩) (line1000 (by omega)) ?_ ?_ ?_
    · rintro i acc H' hi ⟨_, _, sx, _⟩
      exact ⟨_, _, (natV (firstsF ps))[i]'(by omega), (natV (behindsF ord.length ps))[i]'(by omega), sx _ _ e4, sx _ _ e5, List.getElem?_eq_getElem _, List.getElem?_eq_getElem _⟩
    · rintro acc H' ⟨e, ha, sx, qs, rfl, hL, hq, hDq⟩
      refine ⟨⟨_, _, sx _ _ e4, sx _ _ e5, lenF⟩, ?_⟩
      rw [List.take_of_length_le (by rw [stretch_len]; exact Nat.le_refl _)] at hL
      exact q D qs H' (s4.free hD) (fun x hx => s4.free (hq x hx)) e hL (s4.trans sx)
    · rintro i acc H' y H5 hi ⟨e, ha, sx, qs, rfl, hL, hq, hDq⟩ ⟨pp, x, z, hpp, rfl, hx, hz', rfl⟩
      obtain ⟨a, haf, rfl⟩ := gN (hx _ (sx _ _ e4))
      obtain ⟨c, hcf, rfl⟩ := gN (hz' _ (sx _ _ e5))
      have hac := asc_at hA h1 haf hcf
      have hnw := not_whole hA hne haf hcf
      have sp := sx.trans (same_upd (o := .tup [V.int (a : Int), V.int (c : Int)]) hpp)
      have eD := same_upd (o := .tup [V.int (a : Int), V.int (c : Int)]) hpp _ _ e
      have hL1 := hL.mono (same_upd (o := .tup [V.int (a : Int), V.int (c : Int)]) hpp)
      refine ⟨pp, _, _, rfl, SqT.of upd_same, fun R hR => ?_⟩
      generalize upd H' pp (.tup [V.int (a : Int), V.int (c : Int)]) = H1 at sp eD hL1 ⊢
      refine ⟨_, rfl, _, rfl, _, rfl, _, rfl, _, rfl, o, _, rfl, (s4.trans sp).sqt hT, ?_, fun t3 ht3 => ?_⟩
      · rw [HT.sIx_nat, HT.sIx_nat, hln]
        rintro ⟨z1, z2⟩
        exact hnw ⟨by omega, by omega⟩
      rw [cutN_mid _ (Nat.le_of_lt hac.1) (by rw [hln]; exact hac.2), ← List.map_drop, ← List.map_take]
      have s6 := same_upd (o := .tup (((ord.drop a).take (c - a)).map V.int)) ht3
      refine ⟨t3, _, rfl, .inr (SqT.of upd_same), fun lp hlp => ?_⟩
      have s7 := s6.trans (same_upd (o := .lst (((ord.drop a).take (c - a)).map V.int)) hlp)
      have e7 : (upd (upd H1 t3 (.tup (((ord.drop a).take (c - a)).map V.int))) lp (.lst (((ord.drop a).take (c - a)).map V.int))) lp = some (.lst (((ord.drop a).take (c - a)).map V.int)) := upd_same
      generalize upd (upd H1 t3 (.tup (((ord.drop a).take (c - a)).map V.int))) lp (.lst (((ord.drop a).take (c - a)).map V.int)) = H7 at s7 e7 ⊢
      have hlp1 : H1 lp = none := s6.free hlp
      have nDl : D ≠ lp := ne_of_none eD hlp1
      refine hR _ _ (s7 _ _ eD) ⟨upd_same, by simp [ha], fun b ob eb => ?_, qs ++ [lp], by simp, ?_, fun x hx => ?_, ?_⟩
      · rw [upd_ne (ne_of_none eb hD)]
        exact s7 _ _ (sp _ _ eb)
      · have hst : (stretchF ord ps)[i]? = some ((ord.drop a).take (c - a)) := by
          unfold stretchF
          rw [List.getElem?_map, show ((firstsF ps).zip (behindsF ord.length ps))[i]? = some (a, c) from List.getElem?_zip_eq_some.mpr ⟨haf, hcf⟩]
          rfl
        rw [List.take_succ, hst]
        refine LstsAt.upd (fun z => ?_) (LstsAt.app (hL1.mono s7) (.cons e7 .nil))
        rcases List.mem_append.mp z with z | z
        · exact hDq z
        · exact nDl (List.mem_singleton.mp z)
      · rcases List.mem_append.mp hx with hx | hx
        · exact hq x hx
        · rw [List.mem_singleton.mp hx]
          exact sp.free hlp1
      · intro z
        rcases List.mem_append.mp z with z | z
        · exact hDq z
        · exact nDl (List.mem_singleton.mp z)
abbrev ns_nest_of : List Str := ["order", "found", "parts", "stretch", "part"]
theorem sc_nest_of : FnScope ns_nest_of ["order"] (defScope s_nest_of) := ⟨rfl, rfl, rfl, by decide +kernel, rfl, by decide +kernel, by decide +kernel⟩
theorem ok_nestof {C : Addr} {mb : Tok} (D : Def K mg "nest_of" s_nest_of ["order"]) (T : Txt mg) (mB : mg "BARRED" = some (.str "barred" mb)) (h_cuts : Has P w K mg base CX0 1 "cuts" ["order"] (spCuts K)) (h_stretches : Has P w K mg base CX0 1 "stretches" ["order", "places"] (spStretch K)) (h_left_of : Has P w K mg base (CXV P w) 4 "left_of" ["order", "words"] (spLeft K C)) :
    ∀ d, Has P w K mg base CX0 (d + 4) "nest_of" ["order"] (spNestOf K d)
  | 0 => D.rec0 fun vs H Q E ⟨_, _, _, _, _, h1, _, h2, _⟩ => by omega
  | d + 1 => by
    have h_nest_of := ok_nestof D T mB h_cuts h_stretches h_left_of d
    refine D.ok sc_nest_of (fun vs H Q E h => ?_) (fun f cdv A outer s H vs Q E hr h => ?_)
    · obtain ⟨o, ord, rfl, _⟩ := h; rfl
    · obtain ⟨o, ord, rfl, hT, hO, h1, hz, hd, q⟩ := h
      refine go_c (ps_if (pt_cmpR op_eq (pe_callB call_len_seq (by rfl) T.b.len PySem.boot_len (pa_cons (pv 0) pa_nil)) pe_int (nomark _)) (pss_one (ps_ret pe_non)) pss_nil) ?_
      intro t0'
      refine go_c (ps_set (i := 1) sc_nest_of.nd rfl (Or.inl rfl) (pe_has h_cuts (hr.mono (by first | decide | omega)) (by rfl) pass0 (pa_cons (pv 0) pa_nil))) ?_
      intro t1'
      refine go_c (ps_if (pt_not (pt_truth (pe_ix ix_tup (pv 1) pe_int (fun _ _ => rfl)) (fun _ => rfl))) (pss_one (ps_ret (pe_glob (v := .str barS) (by rfl) mB ⟨_, rfl⟩))) pss_nil) ?_
      intro t2'
      refine go_c (ps_set (i := 2) sc_nest_of.nd rfl (Or.inl rfl) (pe_lst pa_nil)) ?_
      intro t3'
      refine go_c (ps_for PassesOwn.never rfl (pi_list (pe_has h_stretches (hr.mono (by first | decide | omega)) (by rfl) pass0 (pa_cons (pv 0) (pa_cons (pe_ix ix_tup (pv 1) pe_int (fun _ _ => rfl)) pa_nil)))) (pg_name (i := 3) sc_nest_of.nd rfl (Or.inl rfl)) (pss_cons (ps_set (i := 4) sc_nest_of.nd rfl (Or.inl rfl) (pe_has h_nest_of hr (by rfl) pass0 (pa_cons (pe_has h_left_of (hr.mono (by first | decide | omega)) (by rfl) pass0V (pa_cons (pv 0) (pa_cons (pv 3) pa_nil))) pa_nil)))
      (pss_cons (ps_if (pt_cmpR (op_eqB hr.units0) (pv 4) (pe_glob (v := .str barS) (by rfl) mB ⟨_, rfl⟩) (nomark _)) (pss_one (ps_ret (pe_glob (v := .str barS) (by rfl) mB ⟨_, rfl⟩))) pss_nil)
      (pss_one (ps_expr (pe_bm PySem.F.plainAttrs_list PySem.F.slot_list_append PySem.F.type_list_append mt_append (pv 2) (pa_cons (pv 4) pa_nil))))))) ?_
      intro t4'
      refine go_c (ps_if (pt_cmpR op_eq (pe_ix ix_tup (pv 1) pe_int (fun _ _ => rfl)) pe_str (nomark _)) (pss_one (ps_expr (pe_bm0 PySem.F.plainAttrs_list PySem.F.slot_list_reverse PySem.F.type_list_reverse mt_reverse (pv 2)))) pss_nil) ?_
      intro t5'
      refine go_1 (ps_ret (pe_tup (pa_cons (pe_ix ix_tup (pv 1) pe_int (fun _ _ => rfl)) (pa_cons (pe_callTy call_tuple_of (by rfl) T.b.tup boot_ty_tuple (pa_cons (pv 2) pa_nil)) pa_nil)))) ?_
      intro t6'
      have hln : (ord.map V.int).length = ord.length := List.length_map ..
      refine ⟨_, rfl, o, _, rfl, .inr hT, rfl, _, rfl, ?_⟩
      rw [hln]
      by_cases hl : ord.length = 1
      · rw [decide_eq_true (show V.int (ord.length : Int) = V.int 1 by rw [hl]; rfl)]
        refine iteT (q .non H ?_ (Same.refl _))
        rw [nestF, if_pos hl]
        rfl
      · rw [decide_eq_false (fun z => hl (by have z := V.int.inj z; omega))]
        refine iteF ?_
        have eF : nestF (d + 1) ord = if (cutF ord).2 = [] then none else (allO ((stretchF ord (cutF ord).2).map fun b => nestF d (leftF ord b))).map fun ns => if (cutF ord).1 = kS false then Nest.knot false ns.reverse else Nest.knot true ns := by
          rw [nestF, if_neg hl]
        refine ⟨_, rfl, o, ord, rfl, hT, hO, h1, by omega, fun t p H1 nt np hC s1 => ?_⟩
        refine ⟨_, rfl, t, _, 1, _, rfl, rfl, SqT.of hC.1, rfl, _, .inr (.inl ⟨_, SqT.of hC.2, rfl⟩), ?_⟩
        by_cases hp : (cutF ord).2 = []
        · have : (natV (cutF ord).2).isEmpty = true := by rw [hp]; rfl
          rw [this]
          refine iteT (q (.str barS) H1 ?_ s1)
          rw [eF, if_pos hp]
          rfl
        · have : (natV (cutF ord).2).isEmpty = false := by
            cases hx : (cutF ord).2 with
            | nil => exact absurd hx hp
            | cons a r => rfl
          rw [this]
          rw [if_neg hp] at eF
          refine iteF ⟨(by show 0 ≤ sizeLine; omega), fun pl hpl => ?_⟩
          have s2 := s1.trans (same_upd (o := .lst []) hpl)
          have e2 : (upd H1 pl (.lst [])) pl = some (.lst []) := upd_same
          have hC2 := And.intro (same_upd (o := .lst []) hpl _ _ hC.1) (same_upd (o := .lst []) hpl _ _ hC.2)
          have hpl0 : H pl = none := s1.free hpl
          generalize upd H1 pl (.lst []) = H2 at s2 e2 hC2 ⊢
          refine ⟨_, rfl, _, rfl, t, _, 1, _, rfl, rfl, SqT.of hC2.1, rfl, o, p, ord, (cutF ord).2, rfl, s2.sqt hT, hC2.2, cut_asc ord, hp, h1, by omega, fun qa qs H3 nq nqs eq hL s3 => ?_⟩
          have npl : pl ∉ qs := fun z => by rw [nqs pl z] at e2; cases e2
          have nqp : qa ≠ pl := fun z => by rw [z, e2] at nq; cases nq
          have slen := stretch_len ord (cutF ord).2
          have hql := hL.len
          have plen : (cutF ord).2.length ≤ 60 := by
            have : (cutF ord).2.length ≤ ord.length - 1 := by
              unfold cutF
              split
              · split
                · exact Nat.zero_le _
                · exact places_len ord (dnB ord) _
              · exact places_len ord (upB ord) _
            omega
          refine ⟨qa, rfl, ⟨_, SqL.of eq⟩, for_list (K := K) (a := qa) (xs := qs.map V.ref) (fun i σ Hx => ∃ (ns : List Nest) (us : List V) (v3 v4 : Option V), σ = [some (.ref o), some (.ref t), some (.ref pl), v3, v4] ∧ Same H Hx ∧ Hx t = some (.tup [.str (cutF ord).1, .ref p]) ∧ Hx pl = some (.lst us) ∧ NestsAt K Hx ns us ∧
              allO (((stretchF ord (cutF ord).2).take i).map fun b => nestF d (leftF ord b)) = some ns ∧ us.length = i ∧ Hx qa = some (.lst (qs.map V.ref)) ∧ LstsAt Hx qs (stretchF ord (cutF ord).2))
            ⟨[], [], none, none, rfl, s2.trans s3, s3 _ _ hC2.1, s3 _ _ e2, rfl, rfl, rfl, eq, hL⟩ (fun i σ Hx _ ⟨_, _, _, _, _, _, _, _, _, _, _, e, _⟩ => SqL.of e) ?_ ?_⟩
          · rintro i y σ Hx hi ⟨ns, us, v3, v4, rfl, sx, et, ep, hN, hall, hul, eqx, hLx⟩
            obtain ⟨x, hxi, rfl⟩ : ∃ x, qs[i]? = some x ∧ y = V.ref x := by
              rw [List.getElem?_map] at hi
              cases hq : qs[i]? with
              | none => rw [hq] at hi; cases hi
              | some x => rw [hq] at hi; exact ⟨x, rfl, (Option.some.inj hi).symm⟩
            obtain ⟨b, hb, ex⟩ := hLx.get hxi
            obtain ⟨hbn, hbs, hbl⟩ := stretch_ok (cut_asc ord) h1 hp hb
            have hbnd : b.Nodup := hO.nodup.sublist hbs
            have hbm : ∀ w ∈ b, w ∈ ord := fun w hw => hbs.mem hw
            have hbr : ∀ w ∈ b, 0 ≤ w ∧ w < ord.length := fun w hw => hO.mem.mp (hbm w hw)
            have hlo := left_ord hO hbnd hbm
            have hil : i < (stretchF ord (cutF ord).2).length := (List.getElem?_eq_some_iff.mp hb).1
            have hdg : diffG (ord.length : Int) [] (b.map V.int) = true := diffG_iff.mpr ⟨b, rfl, hbnd, hbr, fun u _ h => nomatch h⟩
            have hbl0 : 0 < b.length := List.length_pos_iff.mpr hbn
            have hgi : (((stretchF ord (cutF ord).2).map fun b => nestF d (leftF ord b)))[i]? = some (nestF d (leftF ord b)) := by rw [List.getElem?_map, hb]; rfl
            refine ⟨_, rfl, _, rfl, o, x, ord, b.map V.int, rfl, sx.sqt hT, by omega, SqL.of ex, by rw [List.length_map]; omega, (fun v hv => ?_), (fun ws ews hw1 hw2 hw3 hw4 tt H4 ntt ett s4 => ?_), .inr (fun _ => by rw [List.length_map]; omega), (fun bad => ?_)⟩
            · obtain ⟨w, _, rfl⟩ := List.mem_map.mp hv
              exact .inl ⟨w, rfl⟩
            · have : ws = b := (intV_inj ews).symm
              subst this
              refine ⟨tt, leftF ord ws, rfl, SqT.of ett, hlo.1, by rw [hlo.2]; omega, by rw [hlo.2]; omega, by rw [hlo.2]; omega, fun v H5 hv s5 => ?_⟩
              have S5 := s4.trans s5
              refine ⟨_, rfl, barS, rfl, ?_⟩
              cases hn : nestF d (leftF ord ws) with
              | none =>
                rw [hn] at hv hgi
                have hv : v = .str barS := hv
                subst hv
                refine .inr (.inr ⟨barS, rfl, _, rfl, ?_⟩)
                rw [if_neg (by decide), decide_eq_true rfl]
                refine iteT (q (.str barS) H5 ?_ (sx.trans S5))
                rw [eF, allO_none hgi]
                rfl
              | some n =>
                rw [hn] at hv hgi
                have hv : NestAt K H5 n v := hv
                have go : (fun (σ' : L2.St) (Hz : Hp) => ∃ (ns : List Nest) (us : List V) (v3 v4 : Option V), σ' = [some (.ref o), some (.ref t), some (.ref pl), v3, v4] ∧ Same H Hz ∧ Hz t = some (.tup [.str (cutF ord).1, .ref p]) ∧ Hz pl = some (.lst us) ∧ NestsAt K Hz ns us ∧
                    allO (((stretchF ord (cutF ord).2).take (i + 1)).map fun b => nestF d (leftF ord b)) = some ns ∧ us.length = i + 1 ∧ Hz qa = some (.lst (qs.map V.ref)) ∧ LstsAt Hz qs (stretchF ord (cutF ord).2)) [some (.ref o), some (.ref t), some (.ref pl), some (.ref x), some v] (upd H5 pl (.lst (us ++ [v]))) := by
                  have ep5 := S5 _ _ ep
                  refine ⟨ns ++ [n], us ++ [v], _, _, rfl, fun a oa ea => ?_, ?_, upd_same, ?_, ?_, by simp [hul], ?_, ?_⟩
                  · rw [upd_ne (ne_of_none ea hpl0)]
                    exact S5 _ _ (sx _ _ ea)
                  · rw [upd_ne (ne_of et ep (by intro z; cases z))]
                    exact S5 _ _ et
                  · exact NestsAt.updL ep5 (NestsAt.app (hN.mono S5) (NestsAt.one hv))
                  · rw [List.take_succ, hb, List.map_append]
                    show allO (_ ++ [nestF d (leftF ord ws)]) = _
                    rw [hn]
                    exact allO_snoc n hall
                  · rw [upd_ne nqp]
                    exact S5 _ _ eqx
                  · exact LstsAt.upd npl (hLx.mono S5)
                have app : ∀ {Dn : Ends}, Dn.nx [some (.ref o), some (.ref t), some (.ref pl), some (.ref x), some v] (upd H5 pl (.lst (us ++ [v]))) → tDrop (tBM K "list" rAppend (tVar 2) (tCons (tVar 4) tNil)) Dn [some (.ref o), some (.ref t), some (.ref pl), some (.ref x), some v] H5 := fun {Dn} h =>
                  ⟨_, rfl, .inl ⟨rfl, _, SqL.of (S5 _ _ ep)⟩, _, rfl, pl, _, _, rfl, rfl, S5 _ _ ep, small1000 (by omega), h⟩
                cases n with
                | bad => exact absurd hn (nestF_bad _ _)
                | word =>
                  have e : v = .non := hv
                  subst e
                  exact .inl ⟨rfl, _, rfl, iteF (app go)⟩
                | knot k ps' =>
                  obtain ⟨ad, bd, ws', rfl, ea, _⟩ := hv
                  exact .inr (.inl ⟨ad, _, rfl, SqT.of ea, _, rfl, iteF (app go)⟩)
            · rcases bad with z | z
              · exact absurd (List.map_eq_nil_iff.mp z) hbn
              · rw [hdg] at z
                cases z
          · rintro σ Hx ⟨ns, us, v3, v4, rfl, sx, et, ep, hN, hall, hul, eqx, hLx⟩
            rw [List.length_map, hql] at hall hul
            rw [List.take_length] at hall
            rw [hall] at eF
            have hnl := hN.len
            have h2 : 2 ≤ us.length ∧ us.length ≤ 1000 := by
              have : 0 < (cutF ord).2.length := List.length_pos_iff.mpr hp
              omega
            dsimp only
            refine seq_if (fun σ' Hy => ∃ us' : List V, σ' = [some (.ref o), some (.ref t), some (.ref pl), v3, v4] ∧ Same H Hy ∧ Hy t = some (.tup [.str (cutF ord).1, .ref p]) ∧ Hy pl = some (.lst us') ∧ us'.length = us.length ∧ NestsAt K Hy (if (cutF ord).1 = kS false then ns.reverse else ns) us') ?_ fun hrest => ?_
            · rintro σ' Hy ⟨us', rfl, sy, ety, epy, hul', hNy⟩
              refine ⟨_, rfl, t, _, 0, _, rfl, rfl, SqT.of ety, rfl, _, rfl, pl, _, rfl, .inl ⟨SqL.of epy, fun tp htp => ⟨(by show 2 ≤ sizeLine; decide), fun rp hrp => ?_⟩⟩⟩
              have s8 := (same_upd (o := .tup us') htp).trans (same_upd (o := .tup [.str (cutF ord).1, .ref tp]) hrp)
              refine q (.ref rp) _ ?_ (sy.trans s8)
              rw [eF]
              rcases cut_kind hp with hk | hk
              · rw [hk, if_pos rfl] at hNy
                show TellsN K _ (some (if (cutF ord).1 = kS false then Nest.knot false ns.reverse else Nest.knot true ns)) _
                rw [hk, if_pos rfl]
                exact ⟨rp, tp, us', rfl, by rw [upd_same], same_upd hrp _ _ upd_same, by omega, by omega, (hNy.mono (same_upd htp)).mono (same_upd hrp)⟩
              · rw [hk, if_neg (by decide +kernel)] at hNy
                show TellsN K _ (some (if (cutF ord).1 = kS false then Nest.knot false ns.reverse else Nest.knot true ns)) _
                rw [hk, if_neg (by decide +kernel)]
                exact ⟨rp, tp, us', rfl, by rw [upd_same], same_upd hrp _ _ upd_same, by omega, by omega, (hNy.mono (same_upd htp)).mono (same_upd hrp)⟩
            · refine ⟨_, rfl, t, _, 0, _, rfl, rfl, SqT.of et, rfl, rfl, _, rfl, ?_⟩
              by_cases hk : (cutF ord).1 = kS false
              · rw [decide_eq_true (show V.str (cutF ord).1 = V.str "-" by rw [hk]; rfl)]
                refine iteT ⟨_, rfl, .inl ⟨rfl, _, SqL.of ep⟩, pl, _, rfl, rfl, ep, hrest _ _ ⟨us.reverse, rfl, fun a oa ea => ?_, ?_, upd_same, by simp, ?_⟩⟩
                · rw [upd_ne (ne_of_none ea hpl0)]
                  exact sx _ _ ea
                · rw [upd_ne (ne_of et ep (by intro z; cases z))]
                  exact et
                · rw [if_pos hk]
                  exact NestsAt.updL ep (nests_rev hN)
              · rw [decide_eq_false (show ¬ V.str (cutF ord).1 = V.str "-" from fun z => hk (V.str.inj z))]
                refine iteF (hrest _ _ ⟨us, rfl, sx, et, ep, rfl, ?_⟩)
                rw [if_neg hk]
                exact hN
abbrev ns_is_word : List Str := ["thing"]
theorem sc_is_word : FnScope ns_is_word ["thing"] (defScope s_is_word) := ⟨rfl, rfl, rfl, by decide +kernel, rfl, by decide +kernel, by decide +kernel⟩
def cp_is_word_0 (s : Stmt) : Scope := match (defBody s).getD 1 (.Pass ⟨0, 0, 0, 0⟩) with
  | .Return (some (.Call _ [(.ListComp _ _ sc _)] _ _)) _ => sc
  | _ => defScope s
theorem cs_is_word_0 : CScope (defScope s_is_word) (cp_is_word_0 s_is_word) "sign" ["sign"] ns_is_word [] := cs_of (by decide +kernel)
theorem ok_word (D : Def K mg "is_word" s_is_word ["thing"]) (T : Txt mg) {ww w8 : Tok} (mW : mg "WORD_SIGNS" = some (.str wordSigns ww)) (mS : mg "MOST_SIGNS" = some (.int 8 w8)) : Has P w K mg base CX0 1 "is_word" ["thing"] spIsWord := by
  refine D.ok sc_is_word (fun vs H Q E h => ?_) (fun f cdv A outer s H vs Q E hr h => ?_)
  · obtain ⟨x, rfl, _⟩ := h; rfl
  · obtain ⟨x, rfl, hx, q⟩ := h
    refine go_c (ps_if (PW.pt (pw_or (pt_not (pt_val (pe_callB call_isi (by rfl) T.b.isi boot_isi (pa_cons (pv 0) (pa_cons (pe_bltn (v := .ty "str") (by rfl) T.str boot_ty_str rfl) pa_nil))))) (pw_or1 (pt_not (pt_chain op_le op_le pe_int (pe_callB call_len_str (by rfl) T.b.len PySem.boot_len (pa_cons (pv 0) pa_nil)) (pe_glob (v := .int 8) (by rfl) mS ⟨_, rfl⟩)))))) (pss_one (ps_ret pe_bl)) pss_nil) ?_
    intro t0'
    refine go_1 (ps_ret (pe_callB (call_allL rfl) (by rfl) T.all boot_all (pa_cons (pe_comp rfl cs_is_word_0 rfl (pi_str (pv 0)) (fun cl C fp s H => pg_name (i := 0) cs_is_word_0.nd rfl (Or.inl rfl)) (fun cl C fp s H => pts_nil) (fun cl C fp s H => (pe_cmpR op_in_str (pv 0) (pe_glob (v := .str wordSigns) (by rfl) mW ⟨_, rfl⟩) rfl))) pa_nil))) ?_
    intro t1'
    refine ⟨_, rfl, _, _, _, _, rfl, .str _, kit_same _ _, _, rfl, iteF ?_⟩
    refine ⟨_, rfl, x, rfl, line1000 hx, _, _, rfl, rfl, _, rfl, ?_⟩
    by_cases h1 : (1 : Int) ≤ (x.length : Int)
    · rw [decide_eq_true h1]
      refine iteT ⟨_, _, rfl, rfl, _, rfl, ?_⟩
      by_cases h2 : (x.length : Int) ≤ 8
      · rw [decide_eq_true h2]
        refine iteF ?_
        refine ⟨_, rfl, x, rfl, fun D hD => ?_⟩
        let bs : List Bool := x.cps.toList.map fun c => decide (c ∈ signs)
        have hbl : bs.length = x.length := by simp [bs, Str.length]
        refine comp_str (fun i => V.bl (bs.getD i true)) (line1000 hx) (fun i c acc R hc hR => ?_) ?_
        · refine ⟨_, rfl, _, _, rfl, rfl, ?_⟩
          rw [StrLaws.found_one]
          have e : decide (c ∈ wordSigns.cps.toList) = bs.getD i true := by simp [bs, List.getD, hc, signs, wordSigns]
          rw [e]
          exact hR
        · have e : (List.range x.length).map (fun i => V.bl (bs.getD i true)) = bs.map V.bl := by
            rw [← hbl]
            exact range_getD bs
          rw [e]
          refine ⟨D, bs, rfl, SqL.of upd_same, ?_⟩
          have e2 : ((List.range bs.length).all fun i => bs.getD i true) = isW x := by
            rw [all_getD]
            unfold isW
            rw [decide_eq_true (by omega : 1 ≤ x.length), decide_eq_true (by omega : x.length ≤ 8)]
            simp [bs, List.all_map]
          rw [e2]
          exact q _ (same_upd hD)
      · rw [decide_eq_false h2]
        refine iteT ?_
        have e : isW x = false := by simp [isW]; intro _ z; omega
        have := q H (Same.refl _)
        rw [e] at this
        exact this
    · rw [decide_eq_false h1]
      refine iteF ⟨_, rfl, iteT ?_⟩
      have e : isW x = false := by simp [isW]; intro z; omega
      have := q H (Same.refl _)
      rw [e] at this
      exact this
abbrev ns_must_be_row : List Str := ["words"]
theorem sc_must_be_row : FnScope ns_must_be_row ["words"] (defScope s_must_be_row) := ⟨rfl, rfl, rfl, by decide +kernel, rfl, by decide +kernel, by decide +kernel⟩
def cp_must_be_row_0 (s : Stmt) : Scope := match (defBody s).getD 1 (.Pass ⟨0, 0, 0, 0⟩) with
  | .If (.UnaryOp _ (.Call _ [(.ListComp _ _ sc _)] _ _) _) _ _ _ => sc
  | _ => defScope s
theorem cs_must_be_row_0 : CScope (defScope s_must_be_row) (cp_must_be_row_0 s_must_be_row) "word" ["word"] ns_must_be_row [] := cs_of (by decide +kernel)
theorem ok_mustrow {C : Addr} (D : Def K mg "must_be_row" s_must_be_row ["words"]) (T : Txt mg) (h_is_word : Has P w K mg base CX0 1 "is_word" ["thing"] spIsWord) {mw : Tok} (mM : mg "MOST_WORDS" = some (.int 60 mw)) (mNoText : mg "NoText" = some (.ref C)) (xNoText : PySem.W.excIn K C bmVE "ValueError.__new__" = true) : Has P w K mg base (CXV P w) 2 "must_be_row" ["words"] (spMustRow K) := by
  refine D.okV sc_must_be_row (fun vs H Q E h => ?_) (fun f cdv A outer s H vs Q E hr h => ?_)
  · obtain ⟨l, ws, rfl, _⟩ := h; rfl
  · obtain ⟨l, ws, rfl, hl, hok, q⟩ := h
    refine go_c (ps_if (pt_not (pt_chain op_le op_le pe_int (pe_callB call_len_seq (by rfl) T.b.len PySem.boot_len (pa_cons (pv 0) pa_nil)) (pe_glob (v := .int 60) (by rfl) mM ⟨mw, rfl⟩))) (pss_one (ps_raise throwV rfl (by rfl) mNoText xNoText (pa_cons pe_str pa_nil))) pss_nil) ?_
    intro t0'
    refine go_1 (ps_if (pt_not (pt_val (pe_callB (call_allL rfl) (by rfl) T.all boot_all (pa_cons (pe_comp rfl cs_must_be_row_0 rfl (pi_list (pv 0)) (fun cl C fp s H => pg_name (i := 0) cs_must_be_row_0.nd rfl (Or.inl rfl)) (fun cl C fp s H => pts_nil) (fun cl C fp s H => (pe_has h_is_word hr (by rfl) pass0 (pa_cons (pv 0) pa_nil)))) pa_nil)))) (pss_one (ps_raise throwV rfl (by rfl) mNoText xNoText (pa_cons pe_str pa_nil))) pss_nil) ?_
    intro t1'
    have hok' := hok
    simp only [okRow, Bool.and_eq_true, decide_eq_true_eq, List.all_eq_true] at hok'
    obtain ⟨⟨h1, h2⟩, hw⟩ := hok'
    refine ⟨_, rfl, l, _, rfl, .inl hl, _, _, rfl, rfl, _, rfl, ?_⟩
    rw [decide_eq_true (show (1 : Int) ≤ ((ws.map V.str).length : Int) by rw [List.length_map]; omega)]
    refine iteT ⟨_, _, rfl, rfl, _, rfl, ?_⟩
    rw [decide_eq_true (show ((ws.map V.str).length : Int) ≤ 60 by rw [List.length_map]; omega)]
    refine iteF ?_
    refine ⟨_, rfl, l, rfl, ⟨_, hl⟩, fun D hD => ?_⟩
    refine comp_inv (n := ws.length) (fun i acc Hc => acc = (List.replicate i true).map V.bl ∧ Hc D = some (.lst acc) ∧ Same H Hc ∧ i ≤ ws.length) ⟨rfl, upd_same, same_upd hD, Nat.zero_le _⟩ ?_ (line1000 (by omega)) ?_ ?_ ?_
    · rintro i acc Hc ⟨rfl, e, _, hi⟩
      exact ⟨e, by simp⟩
    · rintro i acc Hc hi ⟨rfl, e, sc, _⟩
      exact ⟨ws.map V.str, .str ws[i], sc.seq hl, by rw [List.getElem?_map, List.getElem?_eq_getElem hi]; rfl⟩
    · rintro acc Hc ⟨rfl, e, sc, _⟩
      refine ⟨⟨ws.map V.str, sc.seq hl, by simp⟩, ?_⟩
      refine ⟨D, _, rfl, SqL.of e, ?_⟩
      rw [all_getD]
      refine ⟨_, rfl, ?_⟩
      rw [show (List.replicate ws.length true).all id = true by simp]
      exact iteF (q _ sc)
    · rintro i acc Hc y H5 R hi ⟨rfl, e, sc, _⟩ ⟨rfl, hy⟩ hR
      have hy' := hy _ (sc.seq hl)
      rw [List.getElem?_map, List.getElem?_eq_getElem hi] at hy'
      cases hy'
      have hwi := hw ws[i] (List.getElem_mem hi)
      have hli := isW_len hwi
      refine ⟨_, rfl, ws[i], rfl, by omega, fun H6 s6 => ?_⟩
      rw [hwi]
      refine hR _ _ (s6 _ _ e) ⟨?_, upd_same, fun b' o' e' => ?_, hi⟩
      · rw [List.replicate_succ', List.map_append]
        rfl
      · rw [upd_ne (ne_of_none e' hD)]
        exact s6 _ _ (sc _ _ e')
abbrev ns_turned_from : List Str := ["row", "first"]
theorem sc_turned_from : FnScope ns_turned_from ["row", "first"] (defScope s_turned_from) := ⟨rfl, rfl, rfl, by decide +kernel, rfl, by decide +kernel, by decide +kernel⟩
theorem ok_turnedf {C : Addr} (D : Def K mg "turned_from" s_turned_from ["row", "first"]) (T : Txt mg) (mNoText : mg "NoText" = some (.ref C)) (xNoText : PySem.W.excIn K C bmVE "ValueError.__new__" = true) : Has P w K mg base (CXV P w) 1 "turned_from" ["row", "first"] spTurnedF := by
  refine D.okV sc_turned_from (fun vs H Q E h => ?_) (fun f cdv A outer s H vs Q E hr h => ?_)
  · obtain ⟨l, us, k, rfl, _⟩ := h; rfl
  · obtain ⟨l, us, k, rfl, el, hl, hk, q⟩ := h
    refine go_c (ps_if (pt_cmpR op_lt (pe_callB call_len_seq (by rfl) T.b.len PySem.boot_len (pa_cons (pv 0) pa_nil)) (pe_op op_add (pv 1) pe_int) (nomark _)) (pss_one (ps_raise throwV rfl (by rfl) mNoText xNoText (pa_cons pe_str pa_nil))) pss_nil) ?_
    intro t0'
    refine go_1 (ps_ret (pe_op op_cat (pe_slice sl_list (pv 0) po_none (po_some (pv 1))) (pe_lstRevL rfl rfl T.b.lst T.rev rfl (pa_cons (pe_slice sl_list (pv 0) (po_some (pv 1)) po_none) pa_nil)))) ?_
    intro t1'
    refine ⟨_, rfl, l, _, rfl, .inl (SqL.of el), _, rfl, _, _, rfl, rfl, _, _, rfl, rfl, _, rfl, ?_⟩
    rw [decide_eq_false (by omega)]
    refine iteF ?_
    refine ⟨_, rfl, _, rfl, (k : Int), rfl, l, _, rfl, SqL.of el, fun p1 h1 => ?_⟩
    rw [cutV_head us k (by omega)]
    have s1 := same_upd (o := .lst (us.take k)) h1
    refine ⟨_, rfl, _, rfl, (k : Int), rfl, l, _, rfl, SqL.of (s1 _ _ el), fun p2 h2 => ?_⟩
    rw [cutV_tail us k (by omega)]
    have s2 := same_upd (o := .lst (us.drop k)) h2
    refine ⟨p2, _, rfl, SqL.of upd_same, fun p3 h3 => ?_⟩
    have s3 := same_upd (o := .lst (us.drop k).reverse) h3
    refine ⟨p1, p3, _, _, rfl, rfl, s3 _ _ (s2 _ _ upd_same), upd_same, line1000 (by simp; omega), fun p4 h4 => ?_⟩
    have s4 := same_upd (o := .lst (us.take k ++ (us.drop k).reverse)) h4
    have S3 := s1.trans (s2.trans s3)
    exact q p4 _ (S3.free h4) upd_same (S3.trans s4)
abbrev ns_seen_words : List Str := ["text", "row", "firsts", "piece"]
theorem sc_seen_words : FnScope ns_seen_words ["text"] (defScope s_seen_words) := ⟨rfl, rfl, rfl, by decide +kernel, rfl, by decide +kernel, by decide +kernel⟩
theorem ok_seenw {C : Addr} (D : Def K mg "seen_words" s_seen_words ["text"]) (T : Txt mg) (h_turned_from : Has P w K mg base (CXV P w) 1 "turned_from" ["row", "first"] spTurnedF) (h_must_be_row : Has P w K mg base (CXV P w) 2 "must_be_row" ["words"] (spMustRow K)) (mNoText : mg "NoText" = some (.ref C)) (xNoText : PySem.W.excIn K C bmVE "ValueError.__new__" = true) : Has P w K mg base (CXV P w) 3 "seen_words" ["text"] spSeenW := by
  refine D.okV sc_seen_words (fun vs H Q E h => ?_) (fun f cdv A outer s H vs Q E hr h => ?_)
  · obtain ⟨x, row, rfl, _⟩ := h; rfl
  · obtain ⟨x, fin, rfl, hx, hsl, hsee, hok, q⟩ := h
    refine go_c (ps_set (i := 1) sc_seen_words.nd rfl (Or.inl rfl) (pe_lst pa_nil)) ?_
    intro t0'
    refine go_c (ps_set (i := 2) sc_seen_words.nd rfl (Or.inl rfl) (pe_lst pa_nil)) ?_
    intro t1'
    refine go_c (ps_for PassesOwn.leaving rfl (pi_list (pe_bm PySem.F.plainAttrs_str PySem.F.slot_str_split PySem.F.type_str_split mt_split (pv 0) (pa_cons pe_str pa_nil))) (pg_name (i := 3) sc_seen_words.nd rfl (Or.inl rfl)) (pss_one (ps_if (pt_cmpR op_eq (pv 3) pe_str (nomark _)) (pss_one (ps_expr (pe_bm PySem.F.plainAttrs_list PySem.F.slot_list_append PySem.F.type_list_append mt_append (pv 2) (pa_cons (pe_callB call_len_seq (by rfl) T.b.len PySem.boot_len (pa_cons (pv 1) pa_nil)) pa_nil)))) (pss_one (ps_if (pt_cmpR op_eq (pv 3) pe_str (nomark _)) (pss_cons (ps_if (pt_not (pt_truth (pv 2) (fun _ => rfl))) (pss_one (ps_raise throwV rfl (by rfl) mNoText xNoText (pa_cons pe_str pa_nil))) pss_nil)
      (pss_one (ps_set (i := 1) sc_seen_words.nd rfl (Or.inl rfl) (pe_has h_turned_from (hr.mono (by first | decide | omega)) (by rfl) passV (pa_cons (pv 1) (pa_cons (pe_bm0 PySem.F.plainAttrs_list PySem.F.slot_list_pop PySem.F.type_list_pop mt_pop (pv 2)) pa_nil)))))) (pss_one (ps_expr (pe_bm PySem.F.plainAttrs_list PySem.F.slot_list_append PySem.F.type_list_append mt_append (pv 1) (pa_cons (pv 3) pa_nil))))))))) ?_
    intro t2'
    refine go_c (ps_if (pt_truth (pv 2) (fun _ => rfl)) (pss_one (ps_raise throwV rfl (by rfl) mNoText xNoText (pa_cons pe_str pa_nil))) pss_nil) ?_
    intro t3'
    refine go_c (ps_expr (pe_has h_must_be_row hr (by rfl) passV (pa_cons (pv 1) pa_nil))) ?_
    intro t4'
    refine go_1 (ps_ret (pv 1)) ?_
    intro t5'
    refine ⟨(by show 0 ≤ sizeLine; omega), fun r0 hr0 => ?_⟩
    have s1 := same_upd (o := .lst []) hr0
    have er0 : (upd H r0 (.lst [])) r0 = some (.lst (([] : List Str).map V.str)) := upd_same
    generalize upd H r0 (.lst []) = H1 at s1 er0 ⊢
    refine gname_go ?_
    refine ⟨(by show 0 ≤ sizeLine; omega), fun fl hfl => ?_⟩
    have s2 := same_upd (o := .lst []) hfl
    have efl : (upd H1 fl (.lst [])) fl = some (.lst (([] : List Nat).reverse.map fun (n : Nat) => V.int n)) := upd_same
    have er1 := s2 _ _ er0
    have nfl : H fl = none := s1.free hfl
    generalize upd H1 fl (.lst []) = H2 at s2 efl er1 ⊢
    refine gname_go ?_
    dsimp only [List.set]
    refine ⟨_, rfl, rfl, x, " ", rfl, rfl, (by decide +kernel), (by show x.length + 2 ≤ sizeLine; exact line_mil (by omega)), fun pl hpl => ?_⟩
    generalize Txt.split x " " = ps at hsl hsee ⊢
    have s3 := same_upd (o := .lst (ps.map V.str)) hpl
    have epl : (upd H2 pl (.lst (ps.map V.str))) pl = some (.lst (ps.map V.str)) := upd_same
    have er := s3 _ _ er1
    have ef := s3 _ _ efl
    have S3 := s1.trans (s2.trans s3)
    have npl : H pl = none := (s1.trans s2).free hpl
    have nrf : r0 ≠ fl := ne_of_none er0 hfl
    have nrp : r0 ≠ pl := ne_of_none er1 hpl
    have nfp : fl ≠ pl := ne_of_none efl hpl
    generalize upd H2 pl (.lst (ps.map V.str)) = H3 at s3 epl er ef S3 ⊢
    refine ⟨pl, rfl, ⟨_, SqL.of epl⟩, ?_⟩
    refine for_list (K := K) (a := pl) (xs := ps.map V.str) (fun i σ Hx => ∃ (rl : Addr) (row : List Str) (fs : List Nat) (v3 : Option V), σ = [some (.str x), some (.ref rl), some (.ref fl), v3] ∧ Same H Hx ∧ H rl = none ∧ rl ≠ fl ∧ rl ≠ pl ∧ Hx rl = some (.lst (row.map V.str)) ∧ Hx fl = some (.lst (fs.reverse.map fun (n : Nat) => V.int n)) ∧ Hx pl = some (.lst (ps.map V.str)) ∧ seeT (ps.drop i) row fs = some fin ∧ row.length ≤ i ∧ fs.length ≤ i)
      ⟨r0, [], [], none, rfl, S3, hr0, nrf, nrp, er, ef, epl, hsee, Nat.le_refl _, Nat.le_refl _⟩ (fun i σ Hx _ ⟨_, _, _, _, _, _, _, _, _, _, _, ep, _⟩ => SqL.of ep) ?_ ?_
    · rintro i y σ Hx hi ⟨rl, row, fs, v3, rfl, sx, nrl, n1, n2, eR, eF, eP, hT, hri, hfi⟩
      rw [List.getElem?_map] at hi
      obtain ⟨p, hp, rfl⟩ := Option.map_eq_some_iff.mp hi
      obtain ⟨hil, hpe⟩ := List.getElem?_eq_some_iff.mp hp
      rw [List.drop_eq_getElem_cons hil, hpe, seeT.eq_def] at hT
      dsimp only at hT
      have U : ∀ (a : Addr) (o : HO), H a = none → Same H (upd Hx a o) := fun a o ha b ob e => by rw [upd_ne (ne_of_none e ha)]; exact sx b ob e
      refine gname_go ?_
      dsimp only [List.set]
      refine ⟨_, rfl, rfl, _, rfl, ?_⟩
      by_cases h1 : p = "<"
      · rw [decide_eq_true (show V.str p = V.str "<" by rw [h1])]
        rw [if_pos h1] at hT
        refine iteT ⟨_, rfl, .inl ⟨rfl, _, SqL.of eF⟩, _, rfl, rl, _, rfl, .inl (SqL.of eR), fl, _, _, rfl, rfl, eF, small1000 (by simp; omega), ?_⟩
        refine ⟨rl, row, row.length :: fs, _, rfl, U _ _ nfl, nrl, n1, n2, ?_, ?_, ?_, hT, by omega, by simp; omega⟩
        · rw [upd_ne n1]; exact eR
        · rw [upd_same, List.reverse_cons, List.map_append, List.length_map]; rfl
        · rw [upd_ne nfp.symm]; exact eP
      · rw [decide_eq_false (show ¬ V.str p = V.str "<" from fun z => h1 (V.str.inj z))]
        rw [if_neg h1] at hT
        refine iteF ⟨_, rfl, rfl, _, rfl, ?_⟩
        by_cases h2 : p = ">"
        · rw [decide_eq_true (show V.str p = V.str ">" by rw [h2])]
          rw [if_pos h2] at hT
          refine iteT ?_
          cases fs with
          | nil => cases hT
          | cons k fs =>
            dsimp only at hT
            by_cases hk : row.length < k + 2
            · rw [if_pos hk] at hT; cases hT
            rw [if_neg hk] at hT
            have eF' : Hx fl = some (.lst ((fs.reverse.map fun (n : Nat) => V.int n) ++ [V.int k])) := by rw [eF, List.reverse_cons, List.map_append]; rfl
            refine ⟨_, rfl, true, .inl ⟨_, SqL.of eF', by simp⟩, iteF ?_⟩
            have U2 : Same H (upd Hx fl (.lst (fs.reverse.map fun (n : Nat) => V.int n))) := U _ _ nfl
            refine ⟨_, rfl, _, rfl, .inl ⟨rfl, _, SqL.of eF'⟩, fl, _, V.int k, rfl, rfl, eF', by simp, ?_⟩
            rw [List.dropLast_concat]
            have eR2 : (upd Hx fl (.lst (fs.reverse.map fun (n : Nat) => V.int n))) rl = some (.lst (row.map V.str)) := by rw [upd_ne n1]; exact eR
            have eP2 : (upd Hx fl (.lst (fs.reverse.map fun (n : Nat) => V.int n))) pl = some (.lst (ps.map V.str)) := by rw [upd_ne nfp.symm]; exact eP
            have eF2 : (upd Hx fl (.lst (fs.reverse.map fun (n : Nat) => V.int n))) fl = some (.lst (fs.reverse.map fun (n : Nat) => V.int n)) := upd_same
            generalize upd Hx fl (.lst (fs.reverse.map fun (n : Nat) => V.int n)) = H4 at U2 eR2 eP2 eF2 ⊢
            refine ⟨rl, _, k, rfl, eR2, by rw [List.length_map]; omega, by rw [List.length_map]; omega, fun p1 H5 np1 ep1 s5 => ?_⟩
            rw [← List.map_take, ← List.map_drop, ← List.map_reverse, ← List.map_append] at ep1
            refine gname_go ?_
            dsimp only [List.set]
            exact ⟨p1, _, fs, _, rfl, U2.trans s5, U2.free np1, (ne_of_none eF2 np1).symm, (ne_of_none eP2 np1).symm, ep1, s5 _ _ eF2, s5 _ _ eP2, hT, by simp; omega, by simp at hfi; omega⟩
        · rw [decide_eq_false (show ¬ V.str p = V.str ">" from fun z => h2 (V.str.inj z))]
          rw [if_neg h2] at hT
          refine iteF ?_
          refine ⟨_, rfl, .inl ⟨rfl, _, SqL.of eR⟩, _, rfl, rl, _, _, rfl, rfl, eR, small1000 (by rw [List.length_map]; omega), ?_⟩
          refine ⟨rl, row ++ [p], fs, _, rfl, U _ _ nrl, nrl, n1, n2, ?_, ?_, ?_, hT, by simp; omega, by omega⟩
          · rw [upd_same, List.map_append]; rfl
          · rw [upd_ne n1.symm]; exact eF
          · rw [upd_ne n2.symm]; exact eP
    · rintro σ Hx ⟨rl, row, fs, v3, rfl, sx, nrl, n1, n2, eR, eF, eP, hT, hri, hfi⟩
      rw [List.length_map, List.drop_length] at hT
      cases fs with
      | cons k fs => rw [seeT.eq_def] at hT; cases hT
      | nil =>
        rw [seeT.eq_def] at hT
        cases hT
        refine ⟨_, rfl, false, .inl ⟨_, SqL.of eF, by simp⟩, iteF ?_⟩
        refine ⟨_, rfl, rl, _, rfl, SqL.of eR, hok, fun H5 s5 => ?_⟩
        exact ⟨_, rfl, q rl _ nrl (s5 _ _ eR) (sx.trans s5)⟩
abbrev ns_marked : List Str := ["nest", "words", "pieces", "part", "share"]
theorem sc_marked : FnScope ns_marked ["nest", "words"] (defScope s_marked) := ⟨rfl, rfl, rfl, by decide +kernel, rfl, by decide +kernel, by decide +kernel⟩
theorem ok_marked (D : Def K mg "marked" s_marked ["nest", "words"]) (T : Txt mg) (h_count : ∀ d, Has P w K mg base CX0 d "count_words" ["nest"] (spCount K words d)) (DS : Def K mg "shared_out" s_shared_out ["nest", "things"]) : ∀ d, Has P w K mg base CX0 (d + 2) "marked" ["nest", "words"] (spMarked K d)
  | 0 => D.rec0 fun vs H Q E ⟨_, _, _, _, _, _, _, _, h, _⟩ => absurd h (Nat.not_lt_zero _)
  | d + 1 => by
    have h_marked := ok_marked D T h_count DS d
    have h_shared_out := ok_shared (P := P) (w := w) (base := base) DS (d + 1) (h_count (d + 1))
    refine D.ok sc_marked (fun vs H Q E h => ?_) (fun f cdv A outer s H vs Q E hr h => ?_)
    · obtain ⟨v, l, n, o, ws, rfl, _⟩ := h; rfl
    · obtain ⟨v, l, n, o, ws, rfl, hN, hv, hd, hw, hl, hbl, hW, q⟩ := h
      refine go_c (ps_if (pt_cmpR op_isN (pv 0) pe_non (nomark _)) (pss_one (ps_ret (pe_lst (pa_cons (pe_ix ix_list (pv 1) pe_int (fun _ _ => rfl)) pa_nil)))) pss_nil) ?_
      intro t0'
      refine go_c (ps_set (i := 2) sc_marked.nd rfl (Or.inl rfl) (pe_lst (pa_cons pe_str pa_nil))) ?_
      intro t1'
      refine go_c (ps_for PassesOwn.never rfl (pi_zipTL rfl T.zip (pa_cons (pe_ix ix_tup (pv 0) pe_int (fun _ _ => rfl)) (pa_cons (pe_has h_shared_out hr (by rfl) pass0 (pa_cons (pv 0) (pa_cons (pv 1) pa_nil))) pa_nil))) (pg_tup rfl (pgs_cons (pg_name (i := 3) sc_marked.nd rfl (Or.inl rfl)) (pgs_cons (pg_name (i := 4) sc_marked.nd rfl (Or.inl rfl)) pgs_nil))) (pss_one (ps_expr (pe_bm PySem.F.plainAttrs_list PySem.F.slot_list_extend PySem.F.type_list_extend mt_extend (pv 2) (pa_cons (pe_has h_marked hr (by rfl) pass0 (pa_cons (pv 3) (pa_cons (pv 4) pa_nil))) pa_nil))))) ?_
      intro t2'
      refine go_1 (ps_ret (pe_op op_cat (pv 2) (pe_lst (pa_cons pe_str pa_nil)))) ?_
      intro t3'
      cases n with
      | bad => simp [valid] at hv
      | word =>
        have e : v = .non := hN
        subst e
        rw [words] at hbl
        match ws, hbl with
        | [x], _ =>
          exact ⟨_, rfl, rfl, _, rfl, iteT ⟨_, rfl, l, _, 0, _, rfl, rfl, hl, rfl, (by show 1 ≤ sizeLine; decide), fun p hp => q p _ hp upd_same (same_upd hp)⟩⟩
      | knot k ps =>
        have hN' := hN
        have hfit := NestAt.fit hN hv
        simp only [fit, Bool.and_eq_true, decide_eq_true_eq] at hfit
        obtain ⟨a, b, us, rfl, ea, eb, hu2, hu3, hps⟩ := hN
        have hpl := hps.len
        have hvp : validL k ps = true := by simp only [valid, Bool.and_eq_true] at hv; exact hv.2
        simp only [depthN] at hd
        rw [words] at hw hbl
        refine ⟨_, rfl, rfl, _, rfl, iteF ⟨(by show 1 ≤ sizeLine; decide), fun pp hpp => ?_⟩⟩
        have s1 := same_upd (o := .lst [V.str "<"]) hpp
        have sU : ∀ (G : Hp) (o : HO), Same H G → Same H (upd G pp o) := fun G o h b ob e => by rw [upd_ne (ne_of_none e hpp)]; exact h b ob e
        have ep1 : (upd H pp (.lst [V.str "<"])) pp = some (.lst [V.str "<"]) := upd_same
        generalize upd H pp (.lst [V.str "<"]) = H1 at s1 ep1 ⊢
        refine gname_go ?_
        dsimp only [List.set]
        refine ⟨_, rfl, a, _, 1, _, rfl, rfl, SqT.of (s1 _ _ ea), rfl, _, rfl, _, rfl, a, l, k, ps, ws.map V.str, rfl, hN'.mono s1, hvp, by omega, s1.seq hl, by rw [List.length_map]; omega, by rw [List.length_map]; omega, fun sh rs H2 nsh esh hsh s2 => ?_⟩
        have hrl : rs.length = us.length := by rw [hsh.len, shareL_len, hpl]
        have nshp : sh ≠ pp := fun z => by rw [z, ep1] at nsh; cases nsh
        have nrs : pp ∉ rs := fun hm => by
          obtain ⟨j, hj, e⟩ := List.getElem_of_mem hm
          obtain ⟨ys, hys, ey⟩ := hsh.get (i := j) (p := pp) (by rw [List.getElem?_eq_getElem hj, e])
          rw [s2 _ _ ep1] at ey
          have hjn : j < ps.length := by omega
          rw [shareL_get (List.getElem?_eq_getElem hjn), ← List.map_drop, ← List.map_take] at hys
          have hys := Option.some.inj hys
          have h0 := HO.lst.inj (Option.some.inj ey)
          rw [← hys] at h0
          have hm2 : V.str "<" ∈ ((ws.drop (ahead ps j)).take (words ps[j])).map V.str := by rw [← h0]; exact .head _
          obtain ⟨x, hx, ex⟩ := List.mem_map.mp hm2
          exact isW_lt (hW x (List.mem_of_mem_drop (List.mem_of_mem_take hx))) (V.str.inj ex)
        refine ⟨b, sh, us, rs.map V.ref, rfl, (s1.trans s2) _ _ eb, esh, ?_⟩
        refine for_zipL (a := b) (b := sh) (xs := us) (ys := rs.map V.ref) (by rw [List.length_map]; omega) (fun i σ Hx => ∃ (v3 v4 : Option V), σ = [some (.ref a), some (.ref l), some (.ref pp), v3, v4] ∧ Same H Hx ∧ Hx sh = some (.lst (rs.map V.ref)) ∧ VLs Hx rs (shareL ps (ws.map V.str)) ∧ Hx pp = some (.lst ((("<" : Str) :: mkPL (ps.take i) ws).map V.str)) ∧ i ≤ us.length)
          ⟨none, none, rfl, s1.trans s2, esh, hsh, s2 _ _ ep1, Nat.zero_le _⟩ (fun i σ Hx _ ⟨_, _, _, sx, e1, _⟩ => ⟨sx _ _ eb, e1⟩) ?_ ?_
        · rintro i x y σ Hx tp hx hy ⟨v3, v4, rfl, sx, eS, hL, eP, hiu⟩ htp
          obtain ⟨r, hr', rfl⟩ := refs_get hy
          obtain ⟨nn, hnn, hnv⟩ := hps.get hx
          obtain ⟨xs, hxs, er⟩ := hL.get hr'
          have hil : i < us.length := (List.getElem?_eq_some_iff.mp hx).1
          have hdn := depthL_get hnn
          have hvn := validL_get hvp hnn
          have hwn := wordsL_at hnn
          have hah := ahead_le ps (i + 1)
          have hml := mkPL_len ws (fitL_take (i + 1) hfit.2)
          rw [ahead_succ hnn] at hah
          rw [show wordsL (ps.take (i + 1)) = ahead ps (i + 1) from rfl, ahead_succ hnn, mkPL_take hnn, List.length_append] at hml
          rw [shareL_get hnn] at hxs
          have hxs : (List.drop (ahead ps i) (ws.map V.str)).take (words nn) = xs := by simpa using hxs
          rw [← List.map_drop, ← List.map_take] at hxs
          subst hxs
          have st := same_upd (o := .tup [x, .ref r]) htp
          have er1 := st _ _ er
          have eP1 := st _ _ eP
          refine ⟨tp, _, rfl, SqT.of upd_same, rfl, _, _, rfl, _, _, rfl, rfl, ?_⟩
          generalize upd Hx tp (.tup [x, .ref r]) = H3 at st er1 eP1 ⊢
          have S3 := sx.trans st
          refine ⟨_, rfl, .inl ⟨rfl, _, SqL.of eP1⟩, _, rfl, _, rfl, x, r, nn, some k, (ws.drop (ahead ps i)).take (words nn), rfl, hnv.mono S3, hvn, by omega, by omega, SqL.of er1, (by rw [List.length_take, List.length_drop]; omega), (fun z hz => hW z (List.mem_of_mem_drop (List.mem_of_mem_take hz))), fun p H4 np ep s4 => ?_⟩
          have eP4 := s4 _ _ eP1
          refine ⟨pp, p, _, _, rfl, rfl, eP4, ep, line_mil (by simp only [List.length_map, List.length_cons]; omega), ?_⟩
          have S4 := S3.trans s4
          refine ⟨_, _, rfl, sU _ _ S4, by rw [upd_ne nshp]; exact (st.trans s4) _ _ eS, VLs.upd nrs ((hL.mono st).mono s4), ?_, by omega⟩
          rw [upd_same, mkPL_take hnn, ← List.map_append]
          rfl
        · rintro σ Hx ⟨v3, v4, rfl, sx, eS, hL, eP, hiu⟩
          rw [← hpl, List.take_length] at eP
          have hml := mkPL_len ws hfit.2
          refine ⟨_, rfl, (by show 1 ≤ sizeLine; decide), fun p1 hp1 => ?_⟩
          have s5 := same_upd (o := .lst [V.str ">"]) hp1
          refine ⟨pp, p1, _, _, rfl, rfl, s5 _ _ eP, upd_same, line1000 (by simp; omega), fun p2 hp2 => ?_⟩
          refine q p2 _ ((sx.trans s5).free hp2) ?_ (sx.trans (s5.trans (same_upd hp2)))
          rw [upd_same, mkP]
          simp
abbrev ns_write : List Str := ["words", "nest", "pieces"]
theorem sc_write : FnScope ns_write ["words", "nest"] (defScope s_write) := ⟨rfl, rfl, rfl, by decide +kernel, rfl, by decide +kernel, by decide +kernel⟩
theorem ok_write {C C2 : Addr} (D : Def K mg "write" s_write ["words", "nest"]) (T : Txt mg) (h_must_be_nest : Has P w K mg base (CXV P w) 3 "must_be_nest" ["thing"] (spMust K C)) (h_count_words : Has P w K mg base CX0 60 "count_words" ["nest"] (spCount K words 60)) (h_must_be_row : Has P w K mg base (CXV P w) 2 "must_be_row" ["words"] (spMustRow K)) (h_marked : Has P w K mg base CX0 62 "marked" ["nest", "words"] (spMarked K 60)) (h_is_of_kind : Has P w K mg base CX0 1 "is_of_kind" ["nest", "kind"] (spOfKind K)) (mNoText : mg "NoText" = some (.ref C2)) (xNoText : PySem.W.excIn K C2 bmVE "ValueError.__new__" = true) :
    Has P w K mg base (CXV P w) 63 "write" ["words", "nest"] (spWrite K) := by
  refine D.okV sc_write (fun vs H Q E h => ?_) (fun f cdv A outer s H vs Q E hr h => ?_)
  · obtain ⟨v, l, n, ws, rfl, _⟩ := h; rfl
  · obtain ⟨v, l, n, ws, rfl, hN, ho, hl, hwl, hW, q⟩ := h
    refine go_c (ps_expr (pe_has h_must_be_nest (hr.mono (by first | decide | omega)) (by rfl) passV (pa_cons (pv 1) pa_nil))) ?_
    intro t0'
    refine go_c (ps_if (pt_cmpR op_ne (pe_callB call_len_seq (by rfl) T.b.len PySem.boot_len (pa_cons (pv 0) pa_nil)) (pe_has h_count_words (hr.mono (by first | decide | omega)) (by rfl) pass0 (pa_cons (pv 1) pa_nil)) (nomark _)) (pss_one (ps_raise throwV rfl (by rfl) mNoText xNoText (pa_cons pe_str pa_nil))) pss_nil) ?_
    intro t1'
    refine go_c (ps_expr (pe_has h_must_be_row (hr.mono (by first | decide | omega)) (by rfl) passV (pa_cons (pv 0) pa_nil))) ?_
    intro t2'
    refine go_c (ps_set (i := 2) sc_write.nd rfl (Or.inl rfl) (pe_has h_marked hr (by rfl) pass0 (pa_cons (pv 1) (pa_cons (pv 0) pa_nil)))) ?_
    intro t3'
    refine go_c (ps_if (pt_val (pe_has h_is_of_kind (hr.mono (by first | decide | omega)) (by rfl) pass0 (pa_cons (pv 1) (pa_cons pe_str pa_nil)))) (pss_one (ps_set (i := 2) sc_write.nd rfl (Or.inl rfl) (pe_slice sl_list (pv 2) (po_some pe_int) (po_some (pe_un un_neg pe_int))))) pss_nil) ?_
    intro t4'
    refine go_1 (ps_ret (pe_bm PySem.F.plainAttrs_str PySem.F.slot_str_join PySem.F.type_str_join mt_join pe_str (pa_cons (pv 2) pa_nil))) ?_
    intro t5'
    refine ⟨_, rfl, v, n, rfl, hN, fun _ H1 s1 => ?_, fun bad => by rw [ho] at bad; cases bad⟩
    obtain ⟨h1, h2⟩ := okN_valid ho
    have h3 := depth_words hN
    have hfit := NestAt.fit hN h1
    have hw1 := words_pos hN
    refine ⟨_, rfl, l, _, rfl, .inl (s1.seq hl), _, rfl, v, n, none, rfl, hN.mono s1, h1, by omega, fun H2 s2 => ?_⟩
    have S2 := s1.trans s2
    refine ⟨rfl, _, rfl, ?_⟩
    rw [show (!decide (V.int ((ws.map V.str).length : Int) = V.int ((words n : Nat) : Int))) = false by rw [List.length_map, hwl]; simp]
    refine iteF ?_
    have hrow : okRow ws = true := by
      simp only [okRow, Bool.and_eq_true, decide_eq_true_eq, List.all_eq_true]
      exact ⟨⟨by omega, by omega⟩, hW⟩
    refine ⟨_, rfl, l, ws, rfl, S2.seq hl, hrow, fun H3 s3 => ?_⟩
    have S3 := S2.trans s3
    refine ⟨_, rfl, _, rfl, v, l, n, none, ws, rfl, hN.mono S3, h1, by omega, h2, S3.seq hl, hwl, hW, fun p H4 np ep s4 => ?_⟩
    have S4 := S3.trans s4
    refine gname_go ?_
    dsimp only [List.set]
    refine seq_if (fun σ' Hx => ∃ p', σ' = [some (.ref l), some v, some (.ref p')] ∧ Hx p' = some (.lst ((wrP n ws).map V.str)) ∧ Same H Hx) ?_ fun hrest => ?_
    · rintro σ' Hx ⟨p', rfl, e, sx⟩
      obtain ⟨_, _, hseg, _⟩ := seg_wr h1 hfit hwl hW
      have hps := pcs_len hseg.pieces
      have hpl := wrP_len ws hfit
      refine ⟨rfl, _, rfl, " ", p', wrP n ws, rfl, rfl, SqL.of e, ?_, q _ sx⟩
      rw [show (" " : Str).length = 1 by decide +kernel]
      omega
    · refine ⟨_, rfl, v, n, none, true, rfl, hN.mono S4, h1, _, rfl, ?_⟩
      cases hk : ofK true n with
      | false => exact iteF (hrest _ _ ⟨p, rfl, by rw [wrP_no ws hk]; exact ep, S4⟩)
      | true =>
        obtain ⟨ps, rfl⟩ : ∃ ps, n = .knot true ps := by
          cases n with
          | word => cases hk
          | bad => cases hk
          | knot k ps => exact ⟨ps, by rw [of_decide_eq_true hk]⟩
        refine iteT ⟨_, rfl, 1, rfl, _, rfl, _, rfl, p, _, rfl, SqL.of ep, fun p2 hp2 => ?_⟩
        refine gname_go ?_
        dsimp only [List.set]
        refine hrest _ _ ⟨p2, rfl, ?_, S4.trans (same_upd hp2)⟩
        rw [upd_same, mkP, List.map_cons, List.map_append]
        exact congrArg (fun z => some (HO.lst z)) (cut_in _ _ _)
def spMixed : Sp := fun vs H Q _ => ∃ c k : Int, vs = [.int c, .int k] ∧ -1000 ≤ k ∧ k ≤ 1000 ∧ ∀ z : Int, 0 ≤ z → Q (.int z) H
abbrev ns_law_mixed : List Str := ["cell", "k", "number"]
theorem sc_law_mixed : FnScope ns_law_mixed ["cell", "k"] (defScope s_law_mixed) := ⟨rfl, rfl, rfl, by decide +kernel, rfl, by decide +kernel, by decide +kernel⟩
theorem ok_mixed (D : Def K mg "_law_mixed" s_law_mixed ["cell", "k"]) : Has P w K mg base CX0 1 "_law_mixed" ["cell", "k"] spMixed := by
  refine D.ok sc_law_mixed (fun vs H Q E h => ?_) (fun f cdv A outer s H vs Q E hr h => ?_)
  · obtain ⟨c, k, rfl, _⟩ := h; rfl
  · obtain ⟨c, k, rfl, k1, k2, q⟩ := h
    refine go_c (ps_set (i := 2) sc_law_mixed.nd rfl (Or.inl rfl) (pe_op op_mod (pe_op op_add (pe_op op_add (pe_op op_mulW (pe_op op_mod (pv 0) pe_int) (pe_op op_add (pe_op op_mulW pe_int (pv 1)) pe_int)) (pe_op op_mulW pe_int (pv 1))) pe_int) pe_int)) ?_
    intro t0'
    refine go_1 (ps_ret (pe_op op_fdiv (pe_op op_mod (pe_op op_mulW (pv 2) (pv 2)) pe_int) pe_int)) ?_
    intro t1'
    refine ⟨_, rfl, _, _, rfl, rfl, (by show (0 : Int) < 2147483629; decide), _, rfl, _, _, rfl, rfl, mulOk_of (by omega) (by omega), _, _, rfl, rfl, _, _, rfl, rfl, mulOk_of (by omega) (by omega), _, rfl, _, _, rfl, rfl, mulOk_of (by omega) (by omega), _, _, rfl, rfl, _, _, rfl, rfl, _, _, rfl, rfl, (by show (0 : Int) < 2147483587; decide), ?_⟩
    refine ⟨_, rfl, _, rfl, _, _, rfl, rfl, mulOk_of (by omega) (by omega), _, _, rfl, rfl, (by show (0 : Int) < 2147483563; decide), _, _, rfl, rfl, ⟨by decide, by decide⟩, q _ (Int.ediv_nonneg (Int.emod_nonneg _ (by decide)) (by decide))⟩
abbrev ns_law_word : List Str := ["cell", "some", "word", "k"]
theorem sc_law_word : FnScope ns_law_word ["cell"] (defScope s_law_word) := ⟨rfl, rfl, rfl, by decide +kernel, rfl, by decide +kernel, by decide +kernel⟩
theorem ok_lword (D : Def K mg "_law_word" s_law_word ["cell"]) (T : Txt mg) (h_law_mixed : Has P w K mg base CX0 1 "_law_mixed" ["cell", "k"] spMixed) : Has P w K mg base CX0 2 "_law_word" ["cell"] spWord71 := by
  refine D.ok sc_law_word (fun vs H Q E h => ?_) (fun f cdv A outer s H vs Q E hr h => ?_)
  · obtain ⟨c, rfl, _⟩ := h; rfl
  · obtain ⟨c, rfl, q⟩ := h
    refine go_c (ps_set (i := 1) sc_law_word.nd rfl (Or.inl rfl) pe_str) ?_
    intro t0'
    refine go_c (ps_set (i := 2) sc_law_word.nd rfl (Or.inl rfl) (pe_ix ix_str (pv 1) (pe_op op_mod (pe_has h_law_mixed hr (by rfl) pass0 (pa_cons (pv 0) (pa_cons pe_int pa_nil))) pe_int) (fun _ _ => rfl))) ?_
    intro t1'
    refine go_c (ps_for PassesOwn.never rfl (pi_range1 rfl T.b.rng (pa_cons (pe_op op_mod (pe_has h_law_mixed hr (by rfl) pass0 (pa_cons (pv 0) (pa_cons pe_int pa_nil))) pe_int) pa_nil)) (pg_name (i := 3) sc_law_word.nd rfl (Or.inl rfl)) (pss_one (ps_set (i := 2) sc_law_word.nd rfl (Or.inl rfl) (pe_op op_add_str (pv 2) (pe_ix ix_str (pv 1) (pe_op op_mod (pe_has h_law_mixed hr (by rfl) pass0 (pa_cons (pv 0) (pa_cons (pe_op op_add pe_int (pv 3)) pa_nil))) pe_int) (fun _ _ => rfl)))))) ?_
    intro t2'
    refine go_c (ps_if (pt_cmpR op_eq (pe_op op_mod (pe_has h_law_mixed hr (by rfl) pass0 (pa_cons (pv 0) (pa_cons pe_int pa_nil))) pe_int) pe_int (nomark _)) (pss_one (ps_ret pe_str)) pss_nil) ?_
    intro t3'
    refine go_1 (ps_ret (pv 2)) ?_
    intro t4'
    dsimp only [tSeq, t0', tAsg, tC]
    refine gname_go ?_
    refine ⟨_, rfl, _, rfl, c, 1, rfl, by decide, by decide, fun z1 _ => ?_⟩
    obtain ⟨c0, hc0, hs0⟩ := sign_at (j := z1 % 36) (Int.emod_nonneg _ (by decide)) (Int.emod_lt_of_pos _ (by decide))
    refine ⟨_, _, rfl, rfl, (by show (0 : Int) < 36; decide), _, _, c0, rfl, rfl, (by decide +kernel), hc0, ?_⟩
    refine gname_go ?_
    dsimp only [List.set]
    refine ⟨_, rfl, c, 2, rfl, by decide, by decide, fun z2 _ => ?_⟩
    have m0 := Int.emod_nonneg z2 (show (5 : Int) ≠ 0 by decide)
    have m1 := Int.emod_lt_of_pos z2 (show (0 : Int) < 5 by decide)
    obtain ⟨n, hn⟩ : ∃ n : Nat, z2 % 5 = (n : Int) := ⟨(z2 % 5).toNat, by omega⟩
    refine ⟨_, _, rfl, rfl, (by show (0 : Int) < 5; decide), (n : Int), (by show [V.int (z2 % 5)] = _; rw [hn]), by omega, by omega, ?_⟩
    rw [show ((n : Nat) : Int).toNat = n by omega]
    refine for_range (n := n) (lo := 0) (fun i σ Hx => ∃ (y : Str) (v3 : Option V), σ = [some (.int c), some (.str wordSigns), some (.str y), v3] ∧ Hx = H ∧ y.length = i + 1 ∧ ∀ z ∈ y.cps.toList, z ∈ signs) ⟨⟨#[c0]⟩, none, rfl, rfl, rfl, fun z hz => ?_⟩ ?_ ?_
    · have : z = c0 := by simpa using hz
      rw [this]; exact hs0
    · rintro i σ Hx hi ⟨y, v3, rfl, rfl, hy, hys⟩
      refine gname_go ?_
      dsimp only [List.set]
      refine ⟨_, rfl, _, rfl, _, rfl, _, rfl, _, _, rfl, rfl, c, _, rfl, by omega, by omega, fun z3 _ => ?_⟩
      obtain ⟨ch, hch, hcs⟩ := sign_at (j := z3 % 36) (Int.emod_nonneg _ (by decide)) (Int.emod_lt_of_pos _ (by decide))
      refine ⟨_, _, rfl, rfl, (by show (0 : Int) < 36; decide), _, _, ch, rfl, rfl, (by decide +kernel), hch, _, _, rfl, rfl, line1000 (by show y.length + 1 ≤ 1000; omega), ?_⟩
      refine ⟨_, _, rfl, rfl, by rw [str_len, hy]; rfl, fun z hz => ?_⟩
      rw [str_cat] at hz
      rcases List.mem_append.mp hz with hz | hz
      · exact hys z hz
      · have : z = ch := by simpa using hz
        rw [this]; exact hcs
    · rintro σ Hx ⟨y, v3, rfl, rfl, hy, hys⟩
      refine ⟨_, rfl, c, 3, rfl, by decide, by decide, fun z4 _ => ⟨_, _, rfl, rfl, (by show (0 : Int) < 6; decide), rfl, _, rfl, ?_⟩⟩
      by_cases h6 : V.int (z4 % 6) = V.int 0
      · rw [decide_eq_true h6]
        exact iteT (q _ (by decide +kernel))
      · rw [decide_eq_false h6]
        refine iteF ⟨_, rfl, q y ?_⟩
        simp only [isW, Bool.and_eq_true, decide_eq_true_eq, List.all_eq_true]
        exact ⟨⟨by omega, by omega⟩, hys⟩
abbrev ns_law_closed : List Str := ["pile", "inner"]
theorem sc_law_closed : FnScope ns_law_closed ["pile"] (defScope s_law_closed) := ⟨rfl, rfl, rfl, by decide +kernel, rfl, by decide +kernel, by decide +kernel⟩
def cp_law_closed_0 (s : Stmt) : Scope := match (defBody s).getD 1 (.Pass ⟨0, 0, 0, 0⟩) with
  | .If (.Compare (.Call _ [(.ListComp _ _ sc _)] _ _) _ _ _) _ _ _ => sc
  | _ => defScope s
theorem cs_law_closed_0 : CScope (defScope s_law_closed) (cp_law_closed_0 s_law_closed) "one" ["one"] ns_law_closed [] := cs_of (by decide +kernel)
theorem ok_closed (D : Def K mg "_law_closed" s_law_closed ["pile"]) (T : Txt mg) : Has P w K mg base CX0 1 "_law_closed" ["pile"] spClosed82 := by
  refine D.ok sc_law_closed (fun vs H Q E h => ?_) (fun f cdv A outer s H vs Q E hr h => ?_)
  · obtain ⟨pl, rs, ra, rb, a, b, rfl, _⟩ := h; rfl
  · obtain ⟨pl, rs, ra, rb, a, b, rfl, ep, ea, eb, na, nb, hl, q⟩ := h
    refine go_c (ps_set (i := 1) sc_law_closed.nd rfl (Or.inl rfl) (pe_bm0 PySem.F.plainAttrs_list PySem.F.slot_list_pop PySem.F.type_list_pop mt_pop (pv 0))) ?_
    intro t0'
    refine go_1 (ps_if (pt_cmpR op_gt (pe_callB call_len_seq (by rfl) T.b.len PySem.boot_len (pa_cons (pe_comp rfl cs_law_closed_0 rfl (pi_list (pv 1)) (fun cl C fp s H => pg_name (i := 0) cs_law_closed_0.nd rfl (Or.inl rfl)) (fun cl C fp s H => pts_one (PW.pt (pw_and (pt_cmpR op_ne (pv 0) pe_str (nomark _)) (pw_and1 (pt_cmpR op_ne (pv 0) pe_str (nomark _)))))) (fun cl C fp s H => (pv 0))) pa_nil)) pe_int (nomark _)) (pss_one (ps_asg (pe_op op_cat (pe_op op_cat (pe_op op_cat (pe_ix ix_list (pv 0) (pe_un un_neg pe_int) (fun _ _ => rfl)) (pe_lst (pa_cons pe_str pa_nil))) (pv 1)) (pe_lst (pa_cons pe_str pa_nil))) (pg_sub (pv 0) (pe_un un_neg pe_int) set_list))) (pss_one (ps_asg (pe_op op_cat (pe_ix ix_list (pv 0) (pe_un un_neg pe_int) (fun _ _ => rfl)) (pv 1)) (pg_sub (pv 0) (pe_un un_neg pe_int) set_list)))) ?_
    intro t1'
    rw [List.map_append, show [rb].map V.ref = [V.ref rb] from rfl] at ep
    refine ⟨_, rfl, .inl ⟨rfl, _, SqL.of ep⟩, pl, _, V.ref rb, rfl, rfl, ep, (by simp), ?_⟩
    rw [List.dropLast_concat]
    have ep1 : (upd H pl (.lst ((rs ++ [ra]).map V.ref))) pl = some (.lst (rs.map V.ref ++ [V.ref ra])) := by rw [upd_same, List.map_append]; rfl
    have ea1 : (upd H pl (.lst ((rs ++ [ra]).map V.ref))) ra = some (.lst (a.map V.str)) := by rw [upd_ne na]; exact ea
    have eb1 : (upd H pl (.lst ((rs ++ [ra]).map V.ref))) rb = some (.lst (b.map V.str)) := by rw [upd_ne nb]; exact eb
    have k1 : ∀ x o, x ≠ pl → H x = some o → (upd H pl (.lst ((rs ++ [ra]).map V.ref))) x = some o := fun x o hx e => by rw [upd_ne hx]; exact e
    have f1 : ∀ x, (upd H pl (.lst ((rs ++ [ra]).map V.ref))) x = none → H x = none := fun x e => by
      by_cases hx : x = pl
      · rw [hx, upd_same] at e; cases e
      · rw [upd_ne hx] at e; exact e
    generalize upd H pl (.lst ((rs ++ [ra]).map V.ref)) = H1 at ep1 ea1 eb1 k1 f1 ⊢
    refine gname_go ?_
    dsimp only [List.set]
    refine ⟨_, rfl, rb, rfl, ⟨_, SqL.of eb1⟩, fun D hD => ?_⟩
    refine comp_mk (SqL.of eb1) hD (by omega) ?_
    have sD := same_upd (o := .lst ((b.filter notMk).map V.str)) hD
    refine ⟨D, _, rfl, .inl (SqL.of upd_same), _, _, rfl, rfl, _, rfl, ?_⟩
    have ep2 := sD _ _ ep1
    have ea2 := sD _ _ ea1
    have eb2 := sD _ _ eb1
    have f2 : ∀ x, (upd H1 D (.lst ((b.filter notMk).map V.str))) x = none → H x = none := fun x e => f1 x (sD.free e)
    generalize upd H1 D (.lst ((b.filter notMk).map V.str)) = H2 at sD ep2 ea2 eb2 f2 ⊢
    have fin : ∀ (rn : Addr) (G : Hp), Same H2 G → H2 rn = none → G rn = some (.lst ((a ++ closeS b).map V.str)) → Q .non (upd G pl (.lst (rs.map V.ref ++ [V.ref rn]))) := fun rn G sG hrn eG => by
      have hnp : rn ≠ pl := fun z => by rw [z, ep2] at hrn; cases hrn
      refine q rn _ (f2 _ hrn) (by rw [upd_same, List.map_append]; rfl) (by rw [upd_ne hnp]; exact eG) fun x o hx e => ?_
      rw [upd_ne hx]
      exact sG _ _ (sD _ _ (k1 x o hx e))
    rw [List.length_map]
    by_cases h1 : (1 : Int) < ((b.filter notMk).length : Int)
    · rw [decide_eq_true h1]
      have hcs : closeS b = ("<" : Str) :: (b ++ [(">" : Str)]) := by unfold closeS; rw [if_pos (by omega)]
      refine iteT ⟨_, rfl, _, rfl, pl, _, -1, V.ref ra, rfl, rfl, SqL.of ep2, atI_last _ _, (by show 1 ≤ sizeLine; decide), fun l1 hl1 => ?_⟩
      have t1 := same_upd (o := .lst [V.str (Str.ofString "<")]) hl1
      refine ⟨ra, l1, _, _, rfl, rfl, t1 _ _ ea2, upd_same, line1000 (by simp; omega), fun c1 hc1 => ?_⟩
      have t2 := t1.trans (same_upd (o := .lst (a.map V.str ++ [V.str (Str.ofString "<")])) hc1)
      have e2 : (upd (upd H2 l1 (.lst [V.str (Str.ofString "<")])) c1 (.lst (a.map V.str ++ [V.str (Str.ofString "<")]))) c1 = some (.lst (a.map V.str ++ [V.str (Str.ofString "<")])) := upd_same
      generalize upd (upd H2 l1 (.lst [V.str (Str.ofString "<")])) c1 (.lst (a.map V.str ++ [V.str (Str.ofString "<")])) = G2 at t2 e2 ⊢
      refine ⟨_, rfl, c1, rb, _, _, rfl, rfl, e2, t2 _ _ eb2, line1000 (by simp; omega), fun c2 hc2 => ?_⟩
      have t3 := t2.trans (same_upd (o := .lst (a.map V.str ++ [V.str (Str.ofString "<")] ++ b.map V.str)) hc2)
      have e3 : (upd G2 c2 (.lst (a.map V.str ++ [V.str (Str.ofString "<")] ++ b.map V.str))) c2 = some (.lst (a.map V.str ++ [V.str (Str.ofString "<")] ++ b.map V.str)) := upd_same
      generalize upd G2 c2 (.lst (a.map V.str ++ [V.str (Str.ofString "<")] ++ b.map V.str)) = G3 at t3 e3 ⊢
      refine ⟨(by show 1 ≤ sizeLine; decide), fun l2 hl2 => ?_⟩
      have t4 := same_upd (o := .lst [V.str (Str.ofString ">")]) hl2
      refine ⟨c2, l2, _, _, rfl, rfl, t4 _ _ e3, upd_same, line1000 (by simp; omega), fun c3 hc3 => ?_⟩
      have t5 := t3.trans (t4.trans (same_upd (o := .lst (a.map V.str ++ [V.str (Str.ofString "<")] ++ b.map V.str ++ [V.str (Str.ofString ">")])) hc3))
      have h3 : H2 c3 = none := (t3.trans t4).free hc3
      refine ⟨_, rfl, _, rfl, pl, _, -1, _, rfl, rfl, t5 _ _ ep2, ix_last _ _, ?_⟩
      rw [set_last]
      refine fin c3 _ t5 h3 ?_
      rw [upd_same, hcs]
      simp
    · rw [decide_eq_false h1]
      have hcs : closeS b = b := by unfold closeS; rw [if_neg (by omega)]
      refine iteF ⟨_, rfl, _, rfl, pl, _, -1, V.ref ra, rfl, rfl, SqL.of ep2, atI_last _ _, _, rfl, ra, rb, _, _, rfl, rfl, ea2, eb2, line1000 (by simp; omega), fun c1 hc1 => ?_⟩
      have t1 := same_upd (o := .lst (a.map V.str ++ b.map V.str)) hc1
      refine ⟨_, rfl, _, rfl, pl, _, -1, _, rfl, rfl, t1 _ _ ep2, ix_last _ _, ?_⟩
      rw [set_last]
      refine fin c1 _ t1 hc1 ?_
      rw [upd_same, hcs, List.map_append]
abbrev ns_law_text : List Str := ["cells", "pile", "cell", "way"]
theorem sc_law_text : FnScope ns_law_text ["cells"] (defScope s_law_text) := ⟨rfl, rfl, rfl, by decide +kernel, rfl, by decide +kernel, by decide +kernel⟩
theorem ok_text (D : Def K mg "_law_text" s_law_text ["cells"]) (T : Txt mg) (h_law_mixed : Has P w K mg base CX0 1 "_law_mixed" ["cell", "k"] spMixed) (h_law_word : Has P w K mg base CX0 2 "_law_word" ["cell"] spWord71) (h_law_closed : Has P w K mg base CX0 1 "_law_closed" ["pile"] spClosed82) : Has P w K mg base CX0 3 "_law_text" ["cells"] (spText82 K) := by
  refine D.ok sc_law_text (fun vs H Q E h => ?_) (fun f cdv A outer s H vs Q E hr h => ?_)
  · obtain ⟨a, ns, rfl, _⟩ := h; rfl
  · obtain ⟨a, ns, rfl, hS, hl, q⟩ := h
    refine go_c (ps_set (i := 1) sc_law_text.nd rfl (Or.inl rfl) (pe_lst (pa_cons (pe_lst pa_nil) pa_nil))) ?_
    intro t0'
    refine go_c (ps_for PassesOwn.never rfl (pi_list (pv 0)) (pg_name (i := 2) sc_law_text.nd rfl (Or.inl rfl)) (pss_cons (ps_set (i := 3) sc_law_text.nd rfl (Or.inl rfl) (pe_op op_mod (pe_has h_law_mixed (hr.mono (by first | decide | omega)) (by rfl) pass0 (pa_cons (pv 2) (pa_cons pe_int pa_nil))) pe_int))
      (pss_one (ps_if (pt_cmpR op_eq (pv 3) pe_int (nomark _)) (pss_one (ps_expr (pe_bm PySem.F.plainAttrs_list PySem.F.slot_list_append PySem.F.type_list_append mt_append (pv 1) (pa_cons (pe_lst pa_nil) pa_nil)))) (pss_one (ps_if (PW.pt (pw_and (pt_cmpR op_eq (pv 3) pe_int (nomark _)) (pw_and1 (pt_cmpR op_gt (pe_callB call_len_seq (by rfl) T.b.len PySem.boot_len (pa_cons (pv 1) pa_nil)) pe_int (nomark _))))) (pss_one (ps_expr (pe_has h_law_closed (hr.mono (by first | decide | omega)) (by rfl) pass0 (pa_cons (pv 1) pa_nil)))) (pss_one (ps_asg (pe_op op_cat (pe_ix ix_list (pv 1) (pe_un un_neg pe_int) (fun _ _ => rfl)) (pe_lst (pa_cons (pe_has h_law_word hr (by rfl) pass0 (pa_cons (pv 2) pa_nil)) pa_nil))) (pg_sub (pv 1) (pe_un un_neg pe_int) set_list))))))))) ?_
    intro t1'
    refine go_c (ps_while PassesOwn.never (pt_cmpR op_gt (pe_callB call_len_seq (by rfl) T.b.len PySem.boot_len (pa_cons (pv 1) pa_nil)) pe_int (nomark _)) (pss_one (ps_expr (pe_has h_law_closed (hr.mono (by first | decide | omega)) (by rfl) pass0 (pa_cons (pv 1) pa_nil))))) ?_
    intro t2'
    refine go_c (ps_if (pt_cmpR op_eq (pe_callB call_len_seq (by rfl) T.b.len PySem.boot_len (pa_cons (pe_ix ix_list (pv 1) pe_int (fun _ _ => rfl)) pa_nil)) pe_int (nomark _)) (pss_one (ps_ret (pe_lst (pa_cons pe_str pa_nil)))) pss_nil) ?_
    intro t3'
    refine go_1 (ps_ret (pe_ix ix_list (pv 1) pe_int (fun _ _ => rfl))) ?_
    intro t4'
    refine ⟨(by show 0 ≤ sizeLine; omega), fun r0 hr0 => ⟨(by show 1 ≤ sizeLine; decide), fun pl hpl => ?_⟩⟩
    have s1 := same_upd (o := .lst []) hr0
    have e1 : (upd H r0 (.lst [])) r0 = some (.lst (([] : List Str).map V.str)) := upd_same
    generalize upd H r0 (.lst []) = H1 at s1 e1 hpl ⊢
    have npl : H pl = none := s1.free hpl
    have n0 : r0 ≠ pl := ne_of_none e1 hpl
    have s2 := same_upd (o := .lst [V.ref r0]) hpl
    have e2 : (upd H1 pl (.lst [V.ref r0])) pl = some (.lst ((([] : List Addr) ++ [r0]).map V.ref)) := upd_same
    have e12 := s2 _ _ e1
    have S2 := s1.trans s2
    generalize upd H1 pl (.lst [V.ref r0]) = H2 at s2 e2 e12 S2 ⊢
    refine gname_go ?_
    dsimp only [List.set]
    have sP : ∀ (G : Hp) (o : HO), Same H G → Same H (upd G pl o) := fun G o h b ob e => by rw [upd_ne (ne_of_none e npl)]; exact h b ob e
    let I : Nat → List (List Str) → List Str → List Addr → Addr → Hp → Prop := fun i ss b rs rb Hx => Same H Hx ∧ Hx pl = some (.lst ((rs ++ [rb]).map V.ref)) ∧ VLs Hx rs (stV ss) ∧ Hx rb = some (.lst (b.map V.str)) ∧ pl ∉ rs ∧ rb ≠ pl ∧ (∀ x ∈ ss, isSeg x) ∧ isSeg b ∧ allW ss + (b.filter notMk).length ≤ i ∧ allL ss + b.length + 2 * ss.length ≤ 2 * i ∧ i ≤ 60
    have clo : ∀ (i : Nat) (ss : List (List Str)) (b : List Str) (rs : List Addr) (rb : Addr) (Hx : Hp) (Q' : VK), I i ss b rs rb Hx → ss ≠ [] → (∀ (ss' : List (List Str)) (b' : List Str) (rs' : List Addr) (rb' : Addr) (Hy : Hp), ss'.length + 1 = ss.length → I i ss' b' rs' rb' Hy → Q' .non Hy) → ∀ (E' : XK), spClosed82 [.ref pl] Hx Q' E' := by
      rintro i ss b rs rb Hx Q' ⟨sx, eP, hV, eB, hpn, hbn, hss, hb, hw, hL, hi⟩ hne hq E'
      rcases snoc_cases ss with h | ⟨ss0, a', rfl⟩
      · exact absurd h hne
      have hvl := hV.len
      rcases snoc_cases rs with h | ⟨rs0, ra, rfl⟩
      · rw [h] at hvl; simp [stV] at hvl
      have hvl0 : rs0.length = (stV ss0).length := by simp [stV] at hvl ⊢; exact hvl
      rw [stV_app, stV_one] at hV
      obtain ⟨hV0, eA⟩ := VLs.last hvl0 hV
      simp only [List.mem_append, List.mem_singleton, not_or] at hpn
      rw [allW_app, allW_one] at hw
      rw [allL_app, allL_one, List.length_append, List.length_singleton] at hL
      refine ⟨pl, rs0, ra, rb, a', b, rfl, eP, eA, eB, fun z => hpn.2 z.symm, hbn, by omega, fun rn H' hrn x1 x2 keep => ?_⟩
      have hrp : rn ≠ pl := fun z => by rw [z, eP] at hrn; cases hrn
      have hcl := closeS_len b
      refine hq ss0 (a' ++ closeS b) rs0 rn H' (by simp) ⟨fun x o e => keep x o (ne_of_none e npl) (sx x o e), x1, VLs.keep keep hpn.1 hV0, x2, hpn.1, hrp, fun x hx => hss x (List.mem_append_left _ hx), (hss a' (by simp)).app hb.close, ?_, ?_, hi⟩
      · rw [List.filter_append, List.length_append, closeS_count]
        omega
      · rw [List.length_append]
        omega
    refine ⟨_, rfl, a, rfl, ⟨_, S2.seq hS⟩, ?_⟩
    refine for_list (K := K) (a := a) (xs := ns.map V.int) (fun i σ Hx => ∃ (ss : List (List Str)) (b : List Str) (rs : List Addr) (rb : Addr) (v2 v3 : Option V), σ = [some (.ref a), some (.ref pl), v2, v3] ∧ I i ss b rs rb Hx)
      ⟨[], [], [], r0, none, none, rfl, S2, e2, .nil, e12, by simp, n0, (fun x hx => by cases hx), .nil, Nat.le_refl _, Nat.le_refl _, Nat.zero_le _⟩ (fun i σ Hx _ ⟨_, _, _, _, _, _, _, sx, _⟩ => sx.seq hS) ?_ ?_
    · rintro i y σ Hx hi ⟨ss, b, rs, rb, v2, v3, rfl, hI⟩
      have hI' := hI
      obtain ⟨sx, eP, hV, eB, hpn, hbn, hss, hb, hw, hL, hi60⟩ := hI'
      obtain ⟨c, hc, rfl⟩ := ints_get hi
      have hilt : i < ns.length := (List.getElem?_eq_some_iff.mp hc).1
      have hvl := hV.len
      have hsl : (stV ss).length = ss.length := by simp [stV]
      refine gname_go ?_
      dsimp only [List.set]
      refine ⟨_, rfl, c, 20, rfl, by decide, by decide, fun z _ => ⟨_, _, rfl, rfl, (by show (0 : Int) < 5; decide), ?_⟩⟩
      refine gname_go ?_
      dsimp only [List.set]
      refine ⟨_, rfl, rfl, _, rfl, ?_⟩
      by_cases h0 : V.int (z % 5) = V.int 0
      · rw [decide_eq_true h0]
        refine iteT ⟨_, rfl, .inl ⟨rfl, _, SqL.of eP⟩, (by show 0 ≤ sizeLine; omega), fun nr hnr => ?_⟩
        have t1 := same_upd (o := .lst []) hnr
        have en : (upd Hx nr (.lst [])) nr = some (.lst (([] : List Str).map V.str)) := upd_same
        have eP1 := t1 _ _ eP
        have eB1 := t1 _ _ eB
        have hV1 := hV.mono t1
        have sx1 := sx.trans t1
        have nnp : nr ≠ pl := fun z => by rw [z, eP] at hnr; cases hnr
        generalize upd Hx nr (.lst []) = G1 at t1 en eP1 eB1 hV1 sx1 ⊢
        refine ⟨pl, _, _, rfl, rfl, eP1, small1000 (by simp; omega), ?_⟩
        refine ⟨ss ++ [b], [], rs ++ [rb], nr, _, _, rfl, sP _ _ sx1, by rw [upd_same]; simp, ?_, by rw [upd_ne nnp]; exact en, ?_, nnp, ?_, .nil, ?_, ?_, by omega⟩
        · rw [stV_app, stV_one]
          exact VLs.app (VLs.upd hpn hV1) (.cons (by rw [upd_ne hbn]; exact eB1) .nil)
        · simp only [List.mem_append, List.mem_singleton, not_or]
          exact ⟨hpn, hbn.symm⟩
        · intro x hx
          rcases List.mem_append.mp hx with hx | hx
          · exact hss x hx
          · rw [List.mem_singleton.mp hx]; exact hb
        · rw [allW_app, allW_one]
          simp
          omega
        · rw [allL_app, allL_one]
          simp
          omega
      · rw [decide_eq_false h0]
        refine iteF ?_
        refine if_go _ (dec_and (A := decide (V.int (z % 5) = V.int 1)) (B := decide (1 < (((rs ++ [rb]).map V.ref).length : Int))) (fun Q h => ⟨_, rfl, rfl, _, rfl, h⟩) (fun Q h => ⟨_, rfl, pl, _, rfl, .inl (SqL.of eP), _, _, rfl, rfl, _, rfl, h⟩)) (fun hA => ?_) (fun _ => ?_)
        · simp only [Bool.and_eq_true, decide_eq_true_eq] at hA
          have hne : ss ≠ [] := fun z => by
            have hr0 : rs = [] := List.length_eq_zero_iff.mp (by rw [hvl, z]; rfl)
            rw [hr0] at hA
            simp at hA
          refine ⟨_, rfl, ?_⟩
          dsimp only [tNil]
          refine clo i ss b rs rb Hx _ hI hne (fun ss' b' rs' rb' Hy _ hJ => ?_) _
          obtain ⟨j1, j2, j3, j4, j5, j6, j7, j8, j9, j10, j11⟩ := hJ
          exact ⟨ss', b', rs', rb', _, _, rfl, j1, j2, j3, j4, j5, j6, j7, j8, by omega, by omega, by omega⟩
        · rw [List.map_append, show [rb].map V.ref = [V.ref rb] from rfl] at eP
          refine ⟨_, rfl, _, rfl, pl, _, -1, V.ref rb, rfl, rfl, SqL.of eP, atI_last _ _, _, rfl, c, rfl, fun x hx => ⟨(by show 1 ≤ sizeLine; decide), fun l1 hl1 => ?_⟩⟩
          have t1 := same_upd (o := .lst [V.str x]) hl1
          refine ⟨rb, l1, _, _, rfl, rfl, t1 _ _ eB, upd_same, line1000 (by simp; omega), fun c1 hc1 => ?_⟩
          have t2 := t1.trans (same_upd (o := .lst (b.map V.str ++ [V.str x])) hc1)
          have ec : (upd (upd Hx l1 (.lst [V.str x])) c1 (.lst (b.map V.str ++ [V.str x]))) c1 = some (.lst ((b ++ [x]).map V.str)) := by rw [upd_same, List.map_append]; rfl
          have hc1' : Hx c1 = none := t1.free hc1
          generalize upd (upd Hx l1 (.lst [V.str x])) c1 (.lst (b.map V.str ++ [V.str x])) = G2 at t2 ec ⊢
          have ncp : c1 ≠ pl := fun z => by rw [z, eP] at hc1'; cases hc1'
          refine ⟨_, rfl, _, rfl, pl, _, -1, _, rfl, rfl, t2 _ _ eP, ix_last _ _, ?_⟩
          rw [set_last]
          refine ⟨ss, b ++ [x], rs, c1, _, _, rfl, sP _ _ (sx.trans t2), by rw [upd_same, List.map_append]; rfl, VLs.upd hpn (hV.mono t2), by rw [upd_ne ncp]; exact ec, hpn, ncp, hss, hb.app (isSeg.word hx), ?_, by rw [List.length_append, List.length_singleton]; omega, by omega⟩
          rw [List.filter_append, List.length_append, word_count hx]
          omega
    · rintro σ Hx ⟨ss, b, rs, rb, v2, v3, rfl, hI⟩
      rw [List.length_map] at hI
      let W : Nat → L2.St → Hp → Prop := fun m σ Hy => ∃ (ss : List (List Str)) (b : List Str) (rs : List Addr) (rb : Addr), σ = [some (.ref a), some (.ref pl), v2, v3] ∧ I ns.length ss b rs rb Hy ∧ m = ss.length
      refine ⟨W, ⟨_, ss, b, rs, rb, rfl, hI, rfl⟩, ?_⟩
      clear hI
      rintro m σ Hy ⟨ss, b, rs, rb, rfl, hI, rfl⟩
      have hI' := hI
      obtain ⟨sx, eP, hV, eB, hpn, hbn, hss, hb, hw, hL, hi60⟩ := hI'
      have hvl := hV.len
      have hsl : (stV ss).length = ss.length := by simp [stV]
      refine ⟨_, rfl, pl, _, rfl, .inl (SqL.of eP), _, _, rfl, rfl, _, rfl, ?_⟩
      by_cases h1 : (1 : Int) < (((rs ++ [rb]).map V.ref).length : Int)
      · rw [decide_eq_true h1]
        have hne : ss ≠ [] := fun z => by
          have hr0 : rs = [] := List.length_eq_zero_iff.mp (by rw [hvl, z]; rfl)
          rw [hr0] at h1
          simp at h1
        refine iteT ⟨fun σ' H2 => ∃ m', m' < ss.length ∧ W m' σ' H2, fun σ' H2 h => h, ?_⟩
        refine ⟨_, rfl, ?_⟩
        dsimp only [tNil]
        refine clo _ ss b rs rb Hy _ hI hne (fun ss' b' rs' rb' Hz hlt hJ => ?_) _
        exact ⟨ss'.length, by omega, ss', b', rs', rb', rfl, hJ, rfl⟩
      · rw [decide_eq_false h1]
        have hz : ss = [] := List.length_eq_zero_iff.mp (by simp at h1; omega)
        subst hz
        have hrs : rs = [] := List.length_eq_zero_iff.mp (by simp at h1; omega)
        subst hrs
        obtain ⟨w, ps, r, hseg⟩ := hb
        rw [hseg.count] at hw
        simp only [allW, allL, List.map_nil, List.sum_nil, List.length_nil] at hw hL
        refine iteF ⟨_, rfl, pl, _, 0, V.ref rb, rfl, rfl, SqL.of eP, rfl, rb, _, rfl, .inl (SqL.of eB), rfl, _, rfl, ?_⟩
        by_cases hb0 : V.int ((b.map V.str).length : Int) = V.int 0
        · rw [decide_eq_true hb0]
          exact iteT ⟨(by show 1 ≤ sizeLine; decide), fun p hp => q p [("a" : Str)] [("a" : Str)] [] [0] _ upd_same (.word (by decide +kernel)) (Nat.le_refl _) (by decide) (by decide) (sx.trans (same_upd hp))⟩
        · rw [decide_eq_false hb0]
          have hbn' : b ≠ [] := fun z => hb0 (by rw [z]; rfl)
          exact iteF ⟨_, rfl, pl, _, 0, V.ref rb, rfl, rfl, SqL.of eP, rfl, q rb b w ps r Hy eB hseg (hseg.pos hbn') (by omega) (by omega) sx⟩
abbrev ns_law_order : List Str := ["parts", "pile", "many", "part", "inner"]
theorem sc_law_order : FnScope ns_law_order ["parts"] (defScope s_law_order) := ⟨rfl, rfl, rfl, by decide +kernel, rfl, by decide +kernel, by decide +kernel⟩
theorem ok_lorder (D : Def K mg "_law_order" s_law_order ["parts"]) (T : Txt mg) : Has P w K mg base CX0 1 "_law_order" ["parts"] (spOrder82 K) := by
  refine D.ok sc_law_order (fun vs H Q E h => ?_) (fun f cdv A outer s H vs Q E hr h => ?_)
  · obtain ⟨a, xs, w, ps, r, rfl, _⟩ := h; rfl
  · obtain ⟨a, xs, w, ps, r, rfl, hS, hl, hseg, hw, q⟩ := h
    refine go_c (ps_set (i := 1) sc_law_order.nd rfl (Or.inl rfl) (pe_lst (pa_cons (pe_lst pa_nil) pa_nil))) ?_
    intro t0'
    refine go_c (ps_set (i := 2) sc_law_order.nd rfl (Or.inl rfl) pe_int) ?_
    intro t1'
    refine go_c (ps_for PassesOwn.never rfl (pi_list (pv 0)) (pg_name (i := 3) sc_law_order.nd rfl (Or.inl rfl)) (pss_one (ps_if (pt_cmpR op_eq (pv 3) pe_str (nomark _)) (pss_one (ps_expr (pe_bm PySem.F.plainAttrs_list PySem.F.slot_list_append PySem.F.type_list_append mt_append (pv 1) (pa_cons (pe_lst pa_nil) pa_nil)))) (pss_one (ps_if (pt_cmpR op_eq (pv 3) pe_str (nomark _)) (pss_cons (ps_set (i := 4) sc_law_order.nd rfl (Or.inl rfl) (pe_bm0 PySem.F.plainAttrs_list PySem.F.slot_list_pop PySem.F.type_list_pop mt_pop (pv 1)))
      (pss_one (ps_asg (pe_op op_cat (pe_ix ix_list (pv 1) (pe_un un_neg pe_int) (fun _ _ => rfl)) (pe_revL (pv 4) (pe_un un_neg pe_int))) (pg_sub (pv 1) (pe_un un_neg pe_int) set_list)))) (pss_cons (ps_asg (pe_op op_cat (pe_ix ix_list (pv 1) (pe_un un_neg pe_int) (fun _ _ => rfl)) (pe_lst (pa_cons (pv 2) pa_nil))) (pg_sub (pv 1) (pe_un un_neg pe_int) set_list))
      (pss_one (ps_set (i := 2) sc_law_order.nd rfl (Or.inl rfl) (pe_op op_add (pv 2) pe_int))))))))) ?_
    intro t2'
    refine go_1 (ps_ret (pe_ix ix_list (pv 1) pe_int (fun _ _ => rfl))) ?_
    intro t3'
    refine ⟨(by show 0 ≤ sizeLine; omega), fun r0 hr0 => ⟨(by show 1 ≤ sizeLine; decide), fun pl hpl => ?_⟩⟩
    have s1 := same_upd (o := .lst []) hr0
    have e1 : (upd H r0 (.lst [])) r0 = some (.lst (nv [])) := upd_same
    generalize upd H r0 (.lst []) = H1 at s1 e1 hpl ⊢
    have npl : H pl = none := s1.free hpl
    have n0 : r0 ≠ pl := ne_of_none e1 hpl
    have s2 := same_upd (o := .lst [V.ref r0]) hpl
    have e2 : (upd H1 pl (.lst [V.ref r0])) pl = some (.lst ([r0].map V.ref)) := upd_same
    have e12 := s2 _ _ e1
    have S2 := s1.trans s2
    generalize upd H1 pl (.lst [V.ref r0]) = H2 at s2 e2 e12 S2 ⊢
    refine gname_go ?_
    dsimp only [tSeq, t1', tAsg, tC]
    refine gname_go ?_
    have sP : ∀ (G : Hp) (o : HO), Same H G → Same H (upd G pl o) := fun G o h b ob e => by rw [upd_ne (ne_of_none e npl)]; exact h b ob e
    refine ⟨_, rfl, a, rfl, ⟨_, S2.seq hS⟩, ?_⟩
    refine for_list (K := K) (a := a) (xs := xs.map V.str) (fun i σ Hx => ∃ (st : List (List Nat)) (rs : List Addr) (m : Nat) (v3 v4 : Option V), σ = [some (.ref a), some (.ref pl), some (.int (m : Int)), v3, v4] ∧ Same H Hx ∧ Hx pl = some (.lst (rs.map V.ref)) ∧ VLs Hx rs (st.reverse.map nv) ∧ pl ∉ rs ∧ oT (xs.drop i) st m = some r ∧ st.length ≤ i + 1 ∧ allN st ≤ i ∧ i ≤ xs.length)
      ⟨[[]], [r0], 0, none, none, rfl, S2, e2, .cons e12 .nil, by simpa using n0.symm, hseg.ord, Nat.le_refl _, Nat.le_refl _, Nat.zero_le _⟩ (fun i σ Hx _ ⟨_, _, _, _, _, _, sx, _⟩ => sx.seq hS) ?_ ?_
    · rintro i y σ Hx hi ⟨st, rs, m, v3, v4, rfl, sx, eP, hV, hpn, hT, hst, hal, hix⟩
      rw [List.getElem?_map] at hi
      obtain ⟨p, hp, rfl⟩ := Option.map_eq_some_iff.mp hi
      obtain ⟨hil, hpe⟩ := List.getElem?_eq_some_iff.mp hp
      rw [List.drop_eq_getElem_cons hil, hpe, oT.eq_def] at hT
      dsimp only at hT
      have hrl := hV.len
      rw [List.length_map, List.length_reverse] at hrl
      refine gname_go ?_
      dsimp only [List.set]
      refine ⟨_, rfl, rfl, _, rfl, ?_⟩
      by_cases h1 : p = "<"
      · rw [decide_eq_true (show V.str p = V.str "<" by rw [h1])]
        rw [if_pos h1] at hT
        refine iteT ⟨_, rfl, .inl ⟨rfl, _, SqL.of eP⟩, (by show 0 ≤ sizeLine; omega), fun nr hnr => ?_⟩
        have t1 := same_upd (o := .lst []) hnr
        have en : (upd Hx nr (.lst [])) nr = some (.lst (nv [])) := upd_same
        have nnp : nr ≠ pl := fun z => by rw [z, eP] at hnr; cases hnr
        have eP1 := t1 _ _ eP
        have hV1 := hV.mono t1
        have sx1 := sx.trans t1
        generalize upd Hx nr (.lst []) = G1 at t1 en eP1 hV1 sx1 ⊢
        refine ⟨pl, _, _, rfl, rfl, eP1, small1000 (by rw [List.length_map]; omega), ?_⟩
        refine ⟨[] :: st, rs ++ [nr], m, _, _, rfl, sP _ _ sx1, by rw [upd_same, List.map_append]; rfl, ?_, ?_, hT, by simp; omega, by simp [allN] at hal ⊢; omega, hil⟩
        · rw [List.reverse_cons, List.map_append]
          exact VLs.app (VLs.upd hpn hV1) (.cons (by rw [upd_ne nnp]; exact en) .nil)
        · simp only [List.mem_append, List.mem_singleton, not_or]
          exact ⟨hpn, nnp.symm⟩
      · rw [decide_eq_false (show ¬ V.str p = V.str "<" from fun z => h1 (V.str.inj z))]
        rw [if_neg h1] at hT
        refine iteF ⟨_, rfl, rfl, _, rfl, ?_⟩
        by_cases h2 : p = ">"
        · rw [decide_eq_true (show V.str p = V.str ">" by rw [h2])]
          rw [if_pos h2] at hT
          refine iteT ?_
          match st, hT with
          | [], hT => cases hT
          | [_], hT => cases hT
          | i0 :: t :: st, hT =>
            dsimp only at hT
            rw [List.reverse_cons, List.map_append] at hV
            obtain ⟨rs1, ri, rfl, hV1, ei⟩ := VLs.snoc hV
            rw [List.reverse_cons, List.map_append] at hV1
            obtain ⟨rs0, rt, rfl, hV0, et⟩ := VLs.snoc hV1
            simp only [List.mem_append, List.mem_singleton, not_or] at hpn
            simp only [allN, List.map_cons, List.sum_cons] at hal
            rw [List.map_append, show [ri].map V.ref = [V.ref ri] from rfl] at eP
            refine ⟨_, rfl, .inl ⟨rfl, _, SqL.of eP⟩, pl, _, V.ref ri, rfl, rfl, eP, (by simp), ?_⟩
            rw [List.dropLast_concat]
            have eP1 : (upd Hx pl (.lst ((rs0 ++ [rt]).map V.ref))) pl = some (.lst (rs0.map V.ref ++ [V.ref rt])) := by rw [upd_same, List.map_append]; rfl
            have et1 : (upd Hx pl (.lst ((rs0 ++ [rt]).map V.ref))) rt = some (.lst (nv t)) := by rw [upd_ne (fun z => hpn.1.2 z.symm)]; exact et
            have ei1 : (upd Hx pl (.lst ((rs0 ++ [rt]).map V.ref))) ri = some (.lst (nv i0)) := by rw [upd_ne (fun z => hpn.2 z.symm)]; exact ei
            have sx1 := sP _ (.lst ((rs0 ++ [rt]).map V.ref)) sx
            have hV2 := VLs.upd (o := .lst ((rs0 ++ [rt]).map V.ref)) hpn.1.1 hV0
            generalize upd Hx pl (.lst ((rs0 ++ [rt]).map V.ref)) = G1 at eP1 et1 ei1 sx1 hV2 ⊢
            refine gname_go ?_
            dsimp only [List.set]
            refine ⟨_, rfl, _, rfl, pl, _, -1, V.ref rt, rfl, rfl, SqL.of eP1, atI_last _ _, _, rfl, _, rfl, rfl, ri, _, rfl, SqL.of ei1, fun c1 hc1 => ?_⟩
            have t1 := same_upd (o := .lst (nv i0).reverse) hc1
            refine ⟨rt, c1, _, _, rfl, rfl, t1 _ _ et1, upd_same, line1000 (by simp [nv]; omega), fun c2 hc2 => ?_⟩
            have t2 := t1.trans (same_upd (o := .lst (nv t ++ (nv i0).reverse)) hc2)
            have ec : (upd (upd G1 c1 (.lst (nv i0).reverse)) c2 (.lst (nv t ++ (nv i0).reverse))) c2 = some (.lst (nv (t ++ i0.reverse))) := by rw [upd_same]; simp [nv]
            have hc2' : G1 c2 = none := t1.free hc2
            generalize upd (upd G1 c1 (.lst (nv i0).reverse)) c2 (.lst (nv t ++ (nv i0).reverse)) = G2 at t2 ec ⊢
            have ncp : c2 ≠ pl := fun z => by rw [z, eP1] at hc2'; cases hc2'
            refine ⟨_, rfl, _, rfl, pl, _, -1, _, rfl, rfl, t2 _ _ eP1, ix_last _ _, ?_⟩
            rw [set_last]
            refine ⟨(t ++ i0.reverse) :: st, rs0 ++ [c2], m, _, _, rfl, sP _ _ (sx1.trans t2), by rw [upd_same, List.map_append]; rfl, ?_, ?_, hT, by simp at hst ⊢; omega, by simp [allN]; omega, hil⟩
            · rw [List.reverse_cons, List.map_append]
              exact VLs.app (VLs.upd hpn.1.1 (hV2.mono t2)) (.cons (by rw [upd_ne ncp]; exact ec) .nil)
            · simp only [List.mem_append, List.mem_singleton, not_or]
              exact ⟨hpn.1.1, ncp.symm⟩
        · rw [decide_eq_false (show ¬ V.str p = V.str ">" from fun z => h2 (V.str.inj z))]
          rw [if_neg h2] at hT
          refine iteF ?_
          match st, hT with
          | [], hT => cases hT
          | t :: st, hT =>
            dsimp only at hT
            rw [List.reverse_cons, List.map_append] at hV
            obtain ⟨rs0, rt, rfl, hV0, et⟩ := VLs.snoc hV
            simp only [List.mem_append, List.mem_singleton, not_or] at hpn
            simp only [allN, List.map_cons, List.sum_cons] at hal
            rw [List.map_append, show [rt].map V.ref = [V.ref rt] from rfl] at eP
            refine ⟨_, rfl, _, rfl, pl, _, -1, V.ref rt, rfl, rfl, SqL.of eP, atI_last _ _, _, rfl, (by show 1 ≤ sizeLine; decide), fun c1 hc1 => ?_⟩
            have t1 := same_upd (o := .lst [V.int (m : Int)]) hc1
            refine ⟨rt, c1, _, _, rfl, rfl, t1 _ _ et, upd_same, line1000 (by simp [nv]; omega), fun c2 hc2 => ?_⟩
            have t2 := t1.trans (same_upd (o := .lst (nv t ++ [V.int (m : Int)])) hc2)
            have ec : (upd (upd Hx c1 (.lst [V.int (m : Int)])) c2 (.lst (nv t ++ [V.int (m : Int)]))) c2 = some (.lst (nv (t ++ [m]))) := by rw [upd_same]; simp [nv]
            have hc2' : Hx c2 = none := t1.free hc2
            generalize upd (upd Hx c1 (.lst [V.int (m : Int)])) c2 (.lst (nv t ++ [V.int (m : Int)])) = G2 at t2 ec ⊢
            have ncp : c2 ≠ pl := fun z => by rw [z, eP] at hc2'; cases hc2'
            refine ⟨_, rfl, _, rfl, pl, _, -1, _, rfl, rfl, t2 _ _ eP, ix_last _ _, ?_⟩
            rw [set_last]
            refine ⟨_, rfl, _, _, rfl, rfl, ?_⟩
            refine ⟨(t ++ [m]) :: st, rs0 ++ [c2], m + 1, _, _, rfl, sP _ _ (sx.trans t2), by rw [upd_same, List.map_append]; rfl, ?_, ?_, hT, by simp at hst ⊢; omega, by simp [allN]; omega, hil⟩
            · rw [List.reverse_cons, List.map_append]
              exact VLs.app (VLs.upd hpn.1 (hV0.mono t2)) (.cons (by rw [upd_ne ncp]; exact ec) .nil)
            · simp only [List.mem_append, List.mem_singleton, not_or]
              exact ⟨hpn.1, ncp.symm⟩
    · rintro σ Hx ⟨st, rs, m, v3, v4, rfl, sx, eP, hV, hpn, hT, hst, hal, hix⟩
      rw [List.length_map, List.drop_length, oT.eq_def] at hT
      match st, hT with
      | [], hT => cases hT
      | _ :: _ :: _, hT => cases hT
      | [t], hT =>
        cases hT
        obtain ⟨rs0, rt, rfl, hV0, et⟩ := VLs.snoc (xss := []) hV
        cases hV0
        exact ⟨_, rfl, pl, _, 0, V.ref rt, rfl, rfl, SqL.of eP, rfl, q rt Hx et sx⟩
abbrev ns_law_depth : List Str := ["parts", "here", "most", "part"]
theorem sc_law_depth : FnScope ns_law_depth ["parts"] (defScope s_law_depth) := ⟨rfl, rfl, rfl, by decide +kernel, rfl, by decide +kernel, by decide +kernel⟩
theorem ok_ldepth (D : Def K mg "_law_depth" s_law_depth ["parts"]) (T : Txt mg) : Has P w K mg base CX0 1 "_law_depth" ["parts"] (spDepth82 K) := by
  refine D.ok sc_law_depth (fun vs H Q E h => ?_) (fun f cdv A outer s H vs Q E hr h => ?_)
  · obtain ⟨a, xs, rfl, _⟩ := h; rfl
  · obtain ⟨a, xs, rfl, hS, q⟩ := h
    refine go_c (ps_set (i := 1) sc_law_depth.nd rfl (Or.inl rfl) pe_int) ?_
    intro t0'
    refine go_c (ps_set (i := 2) sc_law_depth.nd rfl (Or.inl rfl) pe_int) ?_
    intro t1'
    refine go_c (ps_for PassesOwn.never rfl (pi_list (pv 0)) (pg_name (i := 3) sc_law_depth.nd rfl (Or.inl rfl)) (pss_cons (ps_set (i := 1) sc_law_depth.nd rfl (Or.inl rfl) (pe_op op_sub (pe_op op_add (pv 1) (pe_callTy call_int1 (by rfl) T.b.int boot_ty_int (pa_cons (pe_cmpR op_eq (pv 3) pe_str (nomark _)) pa_nil))) (pe_callTy call_int1 (by rfl) T.b.int boot_ty_int (pa_cons (pe_cmpR op_eq (pv 3) pe_str (nomark _)) pa_nil))))
      (pss_one (ps_set (i := 2) sc_law_depth.nd rfl (Or.inl rfl) (pe_callB (call_max2 rfl) (by rfl) T.max boot_max (pa_cons (pv 2) (pa_cons (pv 1) pa_nil))))))) ?_
    intro t2'
    refine go_1 (ps_ret (pv 2)) ?_
    intro t3'
    dsimp only [tSeq, t0', tAsg, tC]
    refine gname_go ?_
    dsimp only [tSeq, t1', tAsg, tC]
    refine gname_go ?_
    refine ⟨_, rfl, a, rfl, ⟨_, hS⟩, ?_⟩
    refine for_list (K := K) (a := a) (xs := xs.map V.str) (fun i σ Hx => ∃ (h m : Int) (v3 : Option V), σ = [some (.ref a), some (.int h), some (.int m), v3] ∧ Hx = H ∧ depZ (xs.drop i) h m = depZ xs 0 0) ⟨0, 0, none, rfl, rfl, rfl⟩ (fun i σ Hx _ ⟨_, _, _, _, eq, _⟩ => eq ▸ hS) ?_ ?_
    · rintro i y σ Hx hi ⟨h, m, v3, rfl, rfl, hT⟩
      rw [List.getElem?_map] at hi
      obtain ⟨p, hp, rfl⟩ := Option.map_eq_some_iff.mp hi
      obtain ⟨hil, hpe⟩ := List.getElem?_eq_some_iff.mp hp
      rw [List.drop_eq_getElem_cons hil, hpe, depZ] at hT
      refine gname_go ?_
      dsimp only [List.set]
      have k1 : ∀ z : Str, (if decide (V.str p = V.str z) = true then (1 : Int) else 0) = if p = z then 1 else 0 := fun z => by
        by_cases hx : p = z <;> simp [hx]
      refine ⟨_, rfl, _, rfl, rfl, .inr ⟨_, rfl, _, _, rfl, rfl, _, rfl, rfl, .inr ⟨_, rfl, _, _, rfl, rfl, ?_⟩⟩⟩
      refine gname_go ?_
      dsimp only [List.set]
      refine ⟨_, rfl, _, rfl, _, _, rfl, ?_⟩
      refine ⟨_, _, _, rfl, rfl, ?_⟩
      rw [← hT, k1, k1]
      congr 1
      omega
    · rintro σ Hx ⟨h, m, v3, rfl, rfl, hT⟩
      rw [List.length_map, List.drop_length, depZ] at hT
      subst hT
      exact ⟨_, rfl, q⟩
def spLaw (K : PySem.W.Frag) : Sp := spLawOf K
abbrev ns_law : List Str := ["script", "parts", "words", "order", "due", "found", "nest", "text", "other"]
theorem sc_law : FnScope ns_law ["script"] (defScope s_law) := ⟨rfl, rfl, rfl, by decide +kernel, rfl, by decide +kernel, by decide +kernel⟩
def cp_law_0 (s : Stmt) : Scope := match (defBody s).getD 1 (.Pass ⟨0, 0, 0, 0⟩) with
  | .Assign _ (.ListComp _ _ sc _) _ => sc
  | _ => defScope s
theorem cs_law_0 : CScope (defScope s_law) (cp_law_0 s_law) "part" ["part"] ns_law [] := cs_of (by decide +kernel)
def cp_law_1 (s : Stmt) : Scope := match (defBody s).getD 3 (.Pass ⟨0, 0, 0, 0⟩) with
  | .Assign _ (.ListComp _ _ sc _) _ => sc
  | _ => defScope s
theorem cs_law_1 : CScope (defScope s_law) (cp_law_1 s_law) "number" ["number", "words"] ns_law [2] := cs_of (by decide +kernel)
def cp_law_2 (s : Stmt) : Scope := match (defBody s).getD 12 (.Pass ⟨0, 0, 0, 0⟩) with
  | .If (.Compare (.ListComp _ _ sc _) _ _ _) _ _ _ => sc
  | _ => defScope s
theorem cs_law_2 : CScope (defScope s_law) (cp_law_2 s_law) "part" ["part"] ns_law [] := cs_of (by decide +kernel)
theorem ok_law {C : Addr} {f : Addr} {fd : FuncData} (F : Fun K "law" "law" s_law f fd) (T : Txt mg) (h_law_text : Has P w K mg base CX0 3 "_law_text" ["cells"] (spText82 K)) (h_law_order : Has P w K mg base CX0 1 "_law_order" ["parts"] (spOrder82 K)) (h_seen_words : Has P w K mg base (CXV P w) 3 "seen_words" ["text"] spSeenW) (h_make_order : Has P w K mg base (CXV P w) 3 "make_order" ["numbers"] (spMake K C)) (h_nest_of : Has P w K mg base CX0 64 "nest_of" ["order"] (spNestOf K 60))
    (h_write : Has P w K mg base (CXV P w) 63 "write" ["words", "nest"] (spWrite K)) (h_law_depth : Has P w K mg base CX0 1 "_law_depth" ["parts"] (spDepth82 K)) : FnOk P w K mg base CX0 66 f fd ["script"] (spLaw K) := by
  refine F.ok sc_law (fun vs H Q E h => ?_) (fun cdv A outer s H vs Q E hr h => ?_)
  · obtain ⟨a, ns, rfl, _⟩ := h; rfl
  · obtain ⟨a, ns, rfl, hS, hl, q⟩ := h
    refine go_c (ps_set (i := 1) sc_law.nd rfl (Or.inl rfl) (pe_has h_law_text (hr.mono (by first | decide | omega)) (by rfl) pass0 (pa_cons (pe_slice sl_list (pv 0) (po_some pe_int) (po_some pe_int)) pa_nil))) ?_
    intro t0'
    refine go_c (ps_set (i := 2) sc_law.nd rfl (Or.inr rfl) (pe_comp rfl cs_law_0 rfl (pi_list (pv 1)) (fun cl C fp s H => pg_name (i := 0) cs_law_0.nd rfl (Or.inl rfl)) (fun cl C fp s H => pts_one (PW.pt (pw_and (pt_cmpR op_ne (pv 0) pe_str (nomark _)) (pw_and1 (pt_cmpR op_ne (pv 0) pe_str (nomark _)))))) (fun cl C fp s H => (pv 0)))) ?_
    intro t1'
    refine go_c (ps_set (i := 3) sc_law.nd rfl (Or.inl rfl) (pe_has h_law_order (hr.mono (by first | decide | omega)) (by rfl) pass0 (pa_cons (pv 1) pa_nil))) ?_
    intro t2'
    refine go_c (ps_setComp (i := 4) sc_law.nd rfl (Or.inl rfl) rfl cs_law_1 rfl (pi_list (pv 3)) (fun cl C fp s H => pg_name (i := 0) cs_law_1.nd rfl (Or.inl rfl)) (fun cl C fp s H => pts_nil) (fun cl C fp s H => (pe_ix (r := rIxL K) ix_list (pv 1) (pv 0) (fun _ _ => rfl))) rfl) ?_
    intro t3'
    refine go_c (ps_set (i := 5) sc_law.nd rfl (Or.inl rfl) (pe_has h_seen_words (hr.mono (by first | decide | omega)) (by rfl) pass0V (pa_cons (pe_bm PySem.F.plainAttrs_str PySem.F.slot_str_join PySem.F.type_str_join mt_join pe_str (pa_cons (pv 1) pa_nil)) pa_nil))) ?_
    intro t4'
    refine go_c (ps_if (PW.pt (pw_or (pt_not (pt_val (pe_callB call_isi (by rfl) T.b.isi boot_isi (pa_cons (pv 5) (pa_cons (pe_bltn (v := .ty "list") (by rfl) T.b.lst boot_ty_list rfl) pa_nil))))) (pw_or1 (pt_cmpR (op_neL hr.units0) (pv 5) (pv 4) (nomark _))))) (pss_one (ps_ret pe_bl)) pss_nil) ?_
    intro t5'
    refine go_c (ps_set (i := 6) sc_law.nd rfl (Or.inl rfl) (pe_has h_nest_of (hr.mono (by first | decide | omega)) (by rfl) pass0 (pa_cons (pe_has h_make_order (hr.mono (by first | decide | omega)) (by rfl) pass0V (pa_cons (pv 3) pa_nil)) pa_nil))) ?_
    intro t6'
    refine go_c (ps_if (pt_val (pe_callB call_isi (by rfl) T.b.isi boot_isi (pa_cons (pv 6) (pa_cons (pe_bltn (v := .ty "str") (by rfl) T.str boot_ty_str rfl) pa_nil)))) (pss_one (ps_ret pe_bl)) pss_nil) ?_
    intro t7'
    refine go_c (ps_set (i := 7) sc_law.nd rfl (Or.inl rfl) (pe_has h_write (hr.mono (by first | decide | omega)) (by rfl) pass0V (pa_cons (pv 2) (pa_cons (pv 6) pa_nil)))) ?_
    intro t8'
    refine go_c (ps_if (pt_not (pt_val (pe_callB call_isi (by rfl) T.b.isi boot_isi (pa_cons (pv 7) (pa_cons (pe_bltn (v := .ty "str") (by rfl) T.str boot_ty_str rfl) pa_nil))))) (pss_one (ps_ret pe_bl)) pss_nil) ?_
    intro t9'
    refine go_c (ps_set (i := 8) sc_law.nd rfl (Or.inl rfl) (pe_bm PySem.F.plainAttrs_str PySem.F.slot_str_split PySem.F.type_str_split mt_split (pv 7) (pa_cons pe_str pa_nil))) ?_
    intro t10'
    refine go_c (ps_if (PW.pt (pw_or (pt_cmpR op_gt (pe_bm PySem.F.plainAttrs_list PySem.F.slot_list_count PySem.F.type_list_count mt_countL (pv 8) (pa_cons pe_str pa_nil)) (pe_bm PySem.F.plainAttrs_list PySem.F.slot_list_count PySem.F.type_list_count mt_countL (pv 1) (pa_cons pe_str pa_nil)) (nomark _)) (pw_or1 (pt_cmpR op_gt (pe_has h_law_depth (hr.mono (by first | decide | omega)) (by rfl) pass0 (pa_cons (pv 8) pa_nil)) (pe_has h_law_depth (hr.mono (by first | decide | omega)) (by rfl) pass0 (pa_cons (pv 1) pa_nil)) (nomark _))))) (pss_one (ps_ret pe_bl)) pss_nil) ?_
    intro t11'
    refine go_c (ps_if (pt_cmpR (op_neL hr.units0) (pe_comp rfl cs_law_2 rfl (pi_list (pv 8)) (fun cl C fp s H => pg_name (i := 0) cs_law_2.nd rfl (Or.inl rfl)) (fun cl C fp s H => pts_one (PW.pt (pw_and (pt_cmpR op_ne (pv 0) pe_str (nomark _)) (pw_and1 (pt_cmpR op_ne (pv 0) pe_str (nomark _)))))) (fun cl C fp s H => (pv 0))) (pv 2) (nomark _)) (pss_one (ps_ret pe_bl)) pss_nil) ?_
    intro t12'
    refine go_1 (ps_ret (pe_and (pe_cmpR (op_eqL hr.units0) (pe_has h_law_order (hr.mono (by first | decide | omega)) (by rfl) pass0 (pa_cons (pv 8) pa_nil)) (pv 3) (nomark _)) (pe_one (pe_cmpR (op_eqL hr.units0) (pe_has h_seen_words (hr.mono (by first | decide | omega)) (by rfl) pass0V (pa_cons (pv 7) pa_nil)) (pv 4) (nomark _))))) ?_
    intro t13'
    refine ⟨_, rfl, 1, rfl, 61, rfl, a, _, rfl, hS, fun x1 hx1 => ?_⟩
    obtain ⟨cs, hcs, hcl⟩ : ∃ cs : List Int, cutV (ns.map V.int) (some 1) (some 61) = cs.map V.int ∧ cs.length ≤ 60 := by
      unfold cutV
      rw [← List.map_drop, ← List.map_take]
      refine ⟨_, rfl, ?_⟩
      rw [List.length_take, List.length_drop, List.length_map, show (some (1 : Int)) = some ((1 : Nat) : Int) from rfl, HT.sIx_nat, show (some (61 : Int)) = some ((61 : Nat) : Int) from rfl, HT.sIx_nat]
      omega
    rw [hcs]
    have s1 := same_upd (o := .lst (cs.map V.int)) hx1
    refine ⟨x1, cs, rfl, SqL.of upd_same, hcl, fun pp xs w ps r H2 ep hseg k1 k2 k3 s2 => ?_⟩
    have S2 := s1.trans s2
    refine gname_go ?_
    dsimp only [List.set]
    obtain ⟨n, hv, hf, hwn, hrow, hcnt, hdep⟩ := hseg.nest k1
    have hrl := hseg.len
    obtain ⟨g1, g2, g3⟩ := hseg.text k1 k3
    refine ⟨_, rfl, pp, rfl, ⟨_, SqL.of ep⟩, fun wp hwp => comp_mk (SqL.of ep) hwp (by omega) ?_⟩
    rw [hseg.count]
    have s3 := same_upd (o := .lst (w.map V.str)) hwp
    have ew : (upd H2 wp (.lst (w.map V.str))) wp = some (.lst (w.map V.str)) := upd_same
    have ep3 := s3 _ _ ep
    have S3 := S2.trans s3
    generalize upd H2 wp (.lst (w.map V.str)) = H3 at s3 ew ep3 S3 ⊢
    refine gname_go ?_
    dsimp only [List.set]
    refine ⟨_, rfl, pp, xs, w, ps, r, rfl, SqL.of ep3, k3, hseg, k2, fun op H4 eo s4 => ?_⟩
    refine gname_go ?_
    dsimp only [List.set]
    have ew4 := s4 _ _ ew
    refine ⟨_, rfl, op, rfl, ⟨_, SqL.of eo⟩, fun dl hdl => ?_⟩
    refine comp_list (K := K) (a := op) (xs := nv r) (fun j => V.str (w.getD (r.getD j 0) "")) (line1000 (by rw [nv_len]; omega)) (fun acc => (same_upd hdl).seq (SqL.of eo)) (fun j y acc R hy hR => ?_) ?_
    · rw [nv, List.getElem?_map] at hy
      obtain ⟨k, hk, rfl⟩ := Option.map_eq_some_iff.mp hy
      have hkw := hseg.lt k (List.mem_of_getElem? hk)
      have e : w.getD (r.getD j 0) "" = w[k] := by rw [show r.getD j 0 = k by simp [List.getD, hk]]; simp [List.getD, hkw]
      rw [e] at hR
      exact ⟨_, rfl, _, rfl, wp, _, (k : Int), V.str w[k], rfl, rfl, SqL.of (same_upd hdl _ _ ew4), atI_nat (by rw [List.getElem?_map, List.getElem?_eq_getElem hkw]; rfl), hR⟩
    have eD2 : (List.range (nv r).length).map (fun j => V.str (w.getD (r.getD j 0) "")) = (rowW w r).map V.str := by
      rw [nv_len, rowW, List.map_map]
      apply List.ext_getElem
      · simp
      · intro j h1 h2
        simp at h1
        simp [List.getD, h1]
    rw [eD2]
    have s5 := same_upd (o := .lst ((rowW w r).map V.str)) hdl
    have ed : (upd H4 dl (.lst ((rowW w r).map V.str))) dl = some (.lst ((rowW w r).map V.str)) := upd_same
    have s35 := s4.trans s5
    have eo5 := s5 _ _ eo
    generalize upd H4 dl (.lst ((rowW w r).map V.str)) = H5 at s5 ed s35 eo5 ⊢
    refine gname_go ?_
    dsimp only [List.set]
    have hokr := hseg.ok k1 k2
    refine ⟨rfl, _, rfl, " ", pp, xs, rfl, rfl, SqL.of (s35 _ _ ep3), hseg.joins k3, ?_⟩
    refine ⟨_, rowW w r, rfl, g1, g2, g3, hokr, fun fl H6 hfl efl s6 => ?_⟩
    refine gname_go ?_
    dsimp only [List.set]
    have s36 := s35.trans s6
    refine ⟨_, rfl, _, _, _, _, rfl, .lst efl, kit_same _ _, _, rfl, iteF ⟨_, rfl, _, rfl, fl, dl, _, _, rfl, rfl, SqL.of efl, SqL.of (s6 _ _ ed), .inr ⟨true, eqKs_strs _, _, rfl, iteF ?_⟩⟩⟩
    have hnv : nv r = (rowN n 0).map V.int := by rw [hrow, List.map_map]; rfl
    have hord := row_ord hv
    have eo6 := s6 _ _ eo5
    have eo6' := eo6
    rw [hnv] at eo6'
    refine ⟨_, rfl, op, _, rfl, SqL.of eo6', by rw [List.length_map, hord.2]; omega, plain_ints _ _ _, fun _ t H7 nt et s7 => ?_, fun bad => absurd (good_ord hord.1 (by rw [hord.2]; omega) (by rw [hord.2]; omega)) bad⟩
    refine ⟨t, rowN n 0, rfl, SqT.of et, hord.1, by rw [hord.2]; omega, by rw [hord.2]; omega, by rw [hord.2]; omega, fun v H8 hv8 s8 => ?_⟩
    rw [nest_row 60 n none hv hf (by omega)] at hv8
    have hN : NestAt K H8 n v := hv8
    refine gname_go ?_
    dsimp only [List.set]
    have s68 := s7.trans s8
    have s38 := s36.trans s68
    obtain ⟨ty, ty1, ty2⟩ : ∃ t, TyOf K H8 v t ∧ PySem.W.kitOne K t (.type "str") = some false := by
      cases n with
      | word =>
        have e : v = .non := hN
        subst e
        exact ⟨_, .non, kit_not K rfl rfl (by decide +kernel)⟩
      | bad => exact absurd hv (by simp [valid])
      | knot k ps =>
        obtain ⟨a', b', us, rfl, ea, _⟩ := hN
        exact ⟨_, .tup ea, kit_not K rfl rfl (by decide +kernel)⟩
    refine ⟨_, rfl, _, _, _, _, rfl, ty1, ty2, _, rfl, iteF ?_⟩
    have hok : okN n = true := by unfold okN; rw [hv, hwn, decide_eq_true k2]; rfl
    refine ⟨_, rfl, _, rfl, v, wp, n, w, rfl, hN, hok, SqL.of (s38 _ _ ew), hwn.symm, hseg.words, fun H9 s9 => ?_⟩
    refine gname_go ?_
    dsimp only [List.set]
    have s39 := s38.trans s9
    obtain ⟨p2, r2, hseg2, hr2⟩ := seg_wr hv hf hwn.symm hseg.words
    have hr : r2 = r := (List.map_inj_right fun x y h => Int.ofNat_inj.mp h).mp (hr2.trans hrow)
    subst hr
    have hwl := wrP_len w hf
    have hwl4 : (wrP n w).length ≤ 400 := by omega
    obtain ⟨f1, f2, f3⟩ := hseg2.text k1 hwl4
    refine ⟨_, rfl, _, _, _, _, rfl, .str _, kit_same _ _, _, rfl, iteF ?_⟩
    refine ⟨_, rfl, rfl, _, " ", rfl, rfl, (by decide +kernel), (by show (Txt.join " " (wrP n w)).length + 2 ≤ sizeLine; exact line_mil (by omega)), fun ol hol => ?_⟩
    rw [pcs_split (hseg2.ne k1) hseg2.pieces]
    have s10 := same_upd (o := .lst ((wrP n w).map V.str)) hol
    have el : (upd H9 ol (.lst ((wrP n w).map V.str))) ol = some (.lst ((wrP n w).map V.str)) := upd_same
    have s310 := s39.trans s10
    generalize upd H9 ol (.lst ((wrP n w).map V.str)) = H10 at s10 el s310 ⊢
    refine gname_go ?_
    dsimp only [List.set]
    have epx := s310 _ _ ep3
    refine ⟨_, rfl, .inl ⟨rfl, _, SqL.of el⟩, ol, _, _, rfl, rfl, SqL.of el, _, rfl, .inl ⟨rfl, _, SqL.of epx⟩, pp, _, _, rfl, rfl, SqL.of epx, _, _, rfl, rfl, _, rfl, ?_⟩
    rw [decide_eq_false (by omega)]
    refine iteF ⟨_, rfl, ol, _, rfl, SqL.of el, _, rfl, pp, _, rfl, SqL.of epx, _, _, rfl, rfl, _, rfl, ?_⟩
    rw [decide_eq_false (by omega)]
    refine iteF ⟨_, rfl, ol, rfl, ⟨_, SqL.of el⟩, fun D2 hD2 => comp_mk (SqL.of el) hD2 (by omega) ?_⟩
    rw [hseg2.count]
    have s11 := same_upd (o := .lst (w.map V.str)) hD2
    refine ⟨_, rfl, D2, wp, _, _, rfl, rfl, SqL.of upd_same, SqL.of (s11 _ _ (s310 _ _ ew)), .inr ⟨true, eqKs_strs _, _, rfl, iteF ?_⟩⟩
    refine ⟨_, rfl, ol, wrP n w, w, p2, r2, rfl, SqL.of (s11 _ _ el), hwl4, hseg2, k2, fun o2 H12 eo2 s12 => ?_⟩
    have s612 := s68.trans (s9.trans (s10.trans (s11.trans s12)))
    refine ⟨_, rfl, o2, op, _, _, rfl, rfl, SqL.of eo2, SqL.of (s612 _ _ eo6), .inr ⟨true, eqKs_nv r2, true, rfl, iteT ?_⟩⟩
    refine ⟨_, rfl, _, rowW w r2, rfl, f1, f2, f3, hokr, fun f2 H13 hf2 e13 s13 => ?_⟩
    have Z := s6.trans (s612.trans s13)
    exact ⟨_, rfl, f2, dl, _, _, rfl, rfl, SqL.of e13, SqL.of (Z _ _ ed), .inr ⟨true, eqKs_strs _, q _⟩⟩
end
theorem all_mk {l : PySem.W.OpenLaw} {w : World} {K : PySem.W.Frag} {h : Heap} {mg : Str → Option Value} {fa f0 f1 f2 f3 f4 f5 f6 f7 f8 f9 f10 f11 f12 f13 f14 f15 f16 f17 f18 f19 f20 f21 f22 f23 f24 f25 f26 : Addr} (X : K.In h) (G : h.Ns mainGlobals mg) (hfa : mg "law" = some (.ref fa))
    {od0 an0 : Option Addr} {sl0 : Array (Option Value)} {oc0 kV0 dc0 pm0 cd0 ct0 : Value}
    (a0 : PySem.W.nsIn K mainGlobals "is_whole" = some (some (.ref f0))) (l0 : K.lookup f0 = some ⟨oc0, od0, .func (PySem.W.fnOf "is_whole" "is_whole" (defArgs s_is_whole) (defBody s_is_whole) (defScope s_is_whole) .none kV0 dc0 pm0 an0 cd0 ct0), sl0⟩)
    (c0 : PySem.W.codeIn K cd0 "is_whole" = true) (k0 : PySem.W.keepIn K (.ref f0) = true)
    {od1 an1 : Option Addr} {sl1 : Array (Option Value)} {oc1 kV1 dc1 pm1 cd1 ct1 : Value}
    (a1 : PySem.W.nsIn K mainGlobals "are_different_below" = some (some (.ref f1))) (l1 : K.lookup f1 = some ⟨oc1, od1, .func (PySem.W.fnOf "are_different_below" "are_different_below" (defArgs s_are_different_below) (defBody s_are_different_below) (defScope s_are_different_below) .none kV1 dc1 pm1 an1 cd1 ct1), sl1⟩)
    (c1 : PySem.W.codeIn K cd1 "are_different_below" = true) (k1 : PySem.W.keepIn K (.ref f1) = true)
    {od2 an2 : Option Addr} {sl2 : Array (Option Value)} {oc2 kV2 dc2 pm2 cd2 ct2 : Value}
    (a2 : PySem.W.nsIn K mainGlobals "make_order" = some (some (.ref f2))) (l2 : K.lookup f2 = some ⟨oc2, od2, .func (PySem.W.fnOf "make_order" "make_order" (defArgs s_make_order) (defBody s_make_order) (defScope s_make_order) .none kV2 dc2 pm2 an2 cd2 ct2), sl2⟩)
    (c2 : PySem.W.codeIn K cd2 "make_order" = true) (k2 : PySem.W.keepIn K (.ref f2) = true)
    {od3 an3 : Option Addr} {sl3 : Array (Option Value)} {oc3 kV3 dc3 pm3 cd3 ct3 : Value}
    (a3 : PySem.W.nsIn K mainGlobals "left_of" = some (some (.ref f3))) (l3 : K.lookup f3 = some ⟨oc3, od3, .func (PySem.W.fnOf "left_of" "left_of" (defArgs s_left_of) (defBody s_left_of) (defScope s_left_of) .none kV3 dc3 pm3 an3 cd3 ct3), sl3⟩)
    (c3 : PySem.W.codeIn K cd3 "left_of" = true) (k3 : PySem.W.keepIn K (.ref f3) = true)
    {od4 an4 : Option Addr} {sl4 : Array (Option Value)} {oc4 kV4 dc4 pm4 cd4 ct4 : Value}
    (a4 : PySem.W.nsIn K mainGlobals "must_be_words" = some (some (.ref f4))) (l4 : K.lookup f4 = some ⟨oc4, od4, .func (PySem.W.fnOf "must_be_words" "must_be_words" (defArgs s_must_be_words) (defBody s_must_be_words) (defScope s_must_be_words) .none kV4 dc4 pm4 an4 cd4 ct4), sl4⟩)
    (c4 : PySem.W.codeIn K cd4 "must_be_words" = true) (k4 : PySem.W.keepIn K (.ref f4) = true)
    {od5 an5 : Option Addr} {sl5 : Array (Option Value)} {oc5 kV5 dc5 pm5 cd5 ct5 : Value}
    (a5 : PySem.W.nsIn K mainGlobals "is_nest" = some (some (.ref f5))) (l5 : K.lookup f5 = some ⟨oc5, od5, .func (PySem.W.fnOf "is_nest" "is_nest" (defArgs s_is_nest) (defBody s_is_nest) (defScope s_is_nest) .none kV5 dc5 pm5 an5 cd5 ct5), sl5⟩)
    (c5 : PySem.W.codeIn K cd5 "is_nest" = true) (k5 : PySem.W.keepIn K (.ref f5) = true)
    {od6 an6 : Option Addr} {sl6 : Array (Option Value)} {oc6 kV6 dc6 pm6 cd6 ct6 : Value}
    (a6 : PySem.W.nsIn K mainGlobals "is_knot" = some (some (.ref f6))) (l6 : K.lookup f6 = some ⟨oc6, od6, .func (PySem.W.fnOf "is_knot" "is_knot" (defArgs s_is_knot) (defBody s_is_knot) (defScope s_is_knot) .none kV6 dc6 pm6 an6 cd6 ct6), sl6⟩)
    (c6 : PySem.W.codeIn K cd6 "is_knot" = true) (k6 : PySem.W.keepIn K (.ref f6) = true)
    {od7 an7 : Option Addr} {sl7 : Array (Option Value)} {oc7 kV7 dc7 pm7 cd7 ct7 : Value}
    (a7 : PySem.W.nsIn K mainGlobals "must_be_nest" = some (some (.ref f7))) (l7 : K.lookup f7 = some ⟨oc7, od7, .func (PySem.W.fnOf "must_be_nest" "must_be_nest" (defArgs s_must_be_nest) (defBody s_must_be_nest) (defScope s_must_be_nest) .none kV7 dc7 pm7 an7 cd7 ct7), sl7⟩)
    (c7 : PySem.W.codeIn K cd7 "must_be_nest" = true) (k7 : PySem.W.keepIn K (.ref f7) = true)
    {od8 an8 : Option Addr} {sl8 : Array (Option Value)} {oc8 kV8 dc8 pm8 cd8 ct8 : Value}
    (a8 : PySem.W.nsIn K mainGlobals "is_of_kind" = some (some (.ref f8))) (l8 : K.lookup f8 = some ⟨oc8, od8, .func (PySem.W.fnOf "is_of_kind" "is_of_kind" (defArgs s_is_of_kind) (defBody s_is_of_kind) (defScope s_is_of_kind) .none kV8 dc8 pm8 an8 cd8 ct8), sl8⟩)
    (c8 : PySem.W.codeIn K cd8 "is_of_kind" = true) (k8 : PySem.W.keepIn K (.ref f8) = true)
    {od9 an9 : Option Addr} {sl9 : Array (Option Value)} {oc9 kV9 dc9 pm9 cd9 ct9 : Value}
    (a9 : PySem.W.nsIn K mainGlobals "count_words" = some (some (.ref f9))) (l9 : K.lookup f9 = some ⟨oc9, od9, .func (PySem.W.fnOf "count_words" "count_words" (defArgs s_count_words) (defBody s_count_words) (defScope s_count_words) .none kV9 dc9 pm9 an9 cd9 ct9), sl9⟩)
    (c9 : PySem.W.codeIn K cd9 "count_words" = true) (k9 : PySem.W.keepIn K (.ref f9) = true)
    {od10 an10 : Option Addr} {sl10 : Array (Option Value)} {oc10 kV10 dc10 pm10 cd10 ct10 : Value}
    (a10 : PySem.W.nsIn K mainGlobals "shared_out" = some (some (.ref f10))) (l10 : K.lookup f10 = some ⟨oc10, od10, .func (PySem.W.fnOf "shared_out" "shared_out" (defArgs s_shared_out) (defBody s_shared_out) (defScope s_shared_out) .none kV10 dc10 pm10 an10 cd10 ct10), sl10⟩)
    (c10 : PySem.W.codeIn K cd10 "shared_out" = true) (k10 : PySem.W.keepIn K (.ref f10) = true)
    {od11 an11 : Option Addr} {sl11 : Array (Option Value)} {oc11 kV11 dc11 pm11 cd11 ct11 : Value}
    (a11 : PySem.W.nsIn K mainGlobals "is_word" = some (some (.ref f11))) (l11 : K.lookup f11 = some ⟨oc11, od11, .func (PySem.W.fnOf "is_word" "is_word" (defArgs s_is_word) (defBody s_is_word) (defScope s_is_word) .none kV11 dc11 pm11 an11 cd11 ct11), sl11⟩)
    (c11 : PySem.W.codeIn K cd11 "is_word" = true) (k11 : PySem.W.keepIn K (.ref f11) = true)
    {od12 an12 : Option Addr} {sl12 : Array (Option Value)} {oc12 kV12 dc12 pm12 cd12 ct12 : Value}
    (a12 : PySem.W.nsIn K mainGlobals "must_be_row" = some (some (.ref f12))) (l12 : K.lookup f12 = some ⟨oc12, od12, .func (PySem.W.fnOf "must_be_row" "must_be_row" (defArgs s_must_be_row) (defBody s_must_be_row) (defScope s_must_be_row) .none kV12 dc12 pm12 an12 cd12 ct12), sl12⟩)
    (c12 : PySem.W.codeIn K cd12 "must_be_row" = true) (k12 : PySem.W.keepIn K (.ref f12) = true)
    {od13 an13 : Option Addr} {sl13 : Array (Option Value)} {oc13 kV13 dc13 pm13 cd13 ct13 : Value}
    (a13 : PySem.W.nsIn K mainGlobals "seen_words" = some (some (.ref f13))) (l13 : K.lookup f13 = some ⟨oc13, od13, .func (PySem.W.fnOf "seen_words" "seen_words" (defArgs s_seen_words) (defBody s_seen_words) (defScope s_seen_words) .none kV13 dc13 pm13 an13 cd13 ct13), sl13⟩)
    (c13 : PySem.W.codeIn K cd13 "seen_words" = true) (k13 : PySem.W.keepIn K (.ref f13) = true)
    {od14 an14 : Option Addr} {sl14 : Array (Option Value)} {oc14 kV14 dc14 pm14 cd14 ct14 : Value}
    (a14 : PySem.W.nsIn K mainGlobals "turned_from" = some (some (.ref f14))) (l14 : K.lookup f14 = some ⟨oc14, od14, .func (PySem.W.fnOf "turned_from" "turned_from" (defArgs s_turned_from) (defBody s_turned_from) (defScope s_turned_from) .none kV14 dc14 pm14 an14 cd14 ct14), sl14⟩)
    (c14 : PySem.W.codeIn K cd14 "turned_from" = true) (k14 : PySem.W.keepIn K (.ref f14) = true)
    {od15 an15 : Option Addr} {sl15 : Array (Option Value)} {oc15 kV15 dc15 pm15 cd15 ct15 : Value}
    (a15 : PySem.W.nsIn K mainGlobals "write" = some (some (.ref f15))) (l15 : K.lookup f15 = some ⟨oc15, od15, .func (PySem.W.fnOf "write" "write" (defArgs s_write) (defBody s_write) (defScope s_write) .none kV15 dc15 pm15 an15 cd15 ct15), sl15⟩)
    (c15 : PySem.W.codeIn K cd15 "write" = true) (k15 : PySem.W.keepIn K (.ref f15) = true)
    {od16 an16 : Option Addr} {sl16 : Array (Option Value)} {oc16 kV16 dc16 pm16 cd16 ct16 : Value}
    (a16 : PySem.W.nsIn K mainGlobals "marked" = some (some (.ref f16))) (l16 : K.lookup f16 = some ⟨oc16, od16, .func (PySem.W.fnOf "marked" "marked" (defArgs s_marked) (defBody s_marked) (defScope s_marked) .none kV16 dc16 pm16 an16 cd16 ct16), sl16⟩)
    (c16 : PySem.W.codeIn K cd16 "marked" = true) (k16 : PySem.W.keepIn K (.ref f16) = true)
    {od17 an17 : Option Addr} {sl17 : Array (Option Value)} {oc17 kV17 dc17 pm17 cd17 ct17 : Value}
    (a17 : PySem.W.nsIn K mainGlobals "cuts" = some (some (.ref f17))) (l17 : K.lookup f17 = some ⟨oc17, od17, .func (PySem.W.fnOf "cuts" "cuts" (defArgs s_cuts) (defBody s_cuts) (defScope s_cuts) .none kV17 dc17 pm17 an17 cd17 ct17), sl17⟩)
    (c17 : PySem.W.codeIn K cd17 "cuts" = true) (k17 : PySem.W.keepIn K (.ref f17) = true)
    {od18 an18 : Option Addr} {sl18 : Array (Option Value)} {oc18 kV18 dc18 pm18 cd18 ct18 : Value}
    (a18 : PySem.W.nsIn K mainGlobals "nest_of" = some (some (.ref f18))) (l18 : K.lookup f18 = some ⟨oc18, od18, .func (PySem.W.fnOf "nest_of" "nest_of" (defArgs s_nest_of) (defBody s_nest_of) (defScope s_nest_of) .none kV18 dc18 pm18 an18 cd18 ct18), sl18⟩)
    (c18 : PySem.W.codeIn K cd18 "nest_of" = true) (k18 : PySem.W.keepIn K (.ref f18) = true)
    {od19 an19 : Option Addr} {sl19 : Array (Option Value)} {oc19 kV19 dc19 pm19 cd19 ct19 : Value}
    (a19 : PySem.W.nsIn K mainGlobals "stretches" = some (some (.ref f19))) (l19 : K.lookup f19 = some ⟨oc19, od19, .func (PySem.W.fnOf "stretches" "stretches" (defArgs s_stretches) (defBody s_stretches) (defScope s_stretches) .none kV19 dc19 pm19 an19 cd19 ct19), sl19⟩)
    (c19 : PySem.W.codeIn K cd19 "stretches" = true) (k19 : PySem.W.keepIn K (.ref f19) = true)
    {od20 an20 : Option Addr} {sl20 : Array (Option Value)} {oc20 kV20 dc20 pm20 cd20 ct20 : Value}
    (a20 : PySem.W.nsIn K mainGlobals "_law_mixed" = some (some (.ref f20))) (l20 : K.lookup f20 = some ⟨oc20, od20, .func (PySem.W.fnOf "_law_mixed" "_law_mixed" (defArgs s_law_mixed) (defBody s_law_mixed) (defScope s_law_mixed) .none kV20 dc20 pm20 an20 cd20 ct20), sl20⟩)
    (c20 : PySem.W.codeIn K cd20 "_law_mixed" = true) (k20 : PySem.W.keepIn K (.ref f20) = true)
    {od21 an21 : Option Addr} {sl21 : Array (Option Value)} {oc21 kV21 dc21 pm21 cd21 ct21 : Value}
    (a21 : PySem.W.nsIn K mainGlobals "_law_word" = some (some (.ref f21))) (l21 : K.lookup f21 = some ⟨oc21, od21, .func (PySem.W.fnOf "_law_word" "_law_word" (defArgs s_law_word) (defBody s_law_word) (defScope s_law_word) .none kV21 dc21 pm21 an21 cd21 ct21), sl21⟩)
    (c21 : PySem.W.codeIn K cd21 "_law_word" = true) (k21 : PySem.W.keepIn K (.ref f21) = true)
    {od22 an22 : Option Addr} {sl22 : Array (Option Value)} {oc22 kV22 dc22 pm22 cd22 ct22 : Value}
    (a22 : PySem.W.nsIn K mainGlobals "_law_closed" = some (some (.ref f22))) (l22 : K.lookup f22 = some ⟨oc22, od22, .func (PySem.W.fnOf "_law_closed" "_law_closed" (defArgs s_law_closed) (defBody s_law_closed) (defScope s_law_closed) .none kV22 dc22 pm22 an22 cd22 ct22), sl22⟩)
    (c22 : PySem.W.codeIn K cd22 "_law_closed" = true) (k22 : PySem.W.keepIn K (.ref f22) = true)
    {od23 an23 : Option Addr} {sl23 : Array (Option Value)} {oc23 kV23 dc23 pm23 cd23 ct23 : Value}
    (a23 : PySem.W.nsIn K mainGlobals "_law_text" = some (some (.ref f23))) (l23 : K.lookup f23 = some ⟨oc23, od23, .func (PySem.W.fnOf "_law_text" "_law_text" (defArgs s_law_text) (defBody s_law_text) (defScope s_law_text) .none kV23 dc23 pm23 an23 cd23 ct23), sl23⟩)
    (c23 : PySem.W.codeIn K cd23 "_law_text" = true) (k23 : PySem.W.keepIn K (.ref f23) = true)
    {od24 an24 : Option Addr} {sl24 : Array (Option Value)} {oc24 kV24 dc24 pm24 cd24 ct24 : Value}
    (a24 : PySem.W.nsIn K mainGlobals "_law_order" = some (some (.ref f24))) (l24 : K.lookup f24 = some ⟨oc24, od24, .func (PySem.W.fnOf "_law_order" "_law_order" (defArgs s_law_order) (defBody s_law_order) (defScope s_law_order) .none kV24 dc24 pm24 an24 cd24 ct24), sl24⟩)
    (c24 : PySem.W.codeIn K cd24 "_law_order" = true) (k24 : PySem.W.keepIn K (.ref f24) = true)
    {od25 an25 : Option Addr} {sl25 : Array (Option Value)} {oc25 kV25 dc25 pm25 cd25 ct25 : Value}
    (a25 : PySem.W.nsIn K mainGlobals "_law_depth" = some (some (.ref f25))) (l25 : K.lookup f25 = some ⟨oc25, od25, .func (PySem.W.fnOf "_law_depth" "_law_depth" (defArgs s_law_depth) (defBody s_law_depth) (defScope s_law_depth) .none kV25 dc25 pm25 an25 cd25 ct25), sl25⟩)
    (c25 : PySem.W.codeIn K cd25 "_law_depth" = true) (k25 : PySem.W.keepIn K (.ref f25) = true)
    {od26 an26 : Option Addr} {sl26 : Array (Option Value)} {oc26 kV26 dc26 pm26 cd26 ct26 : Value}
    (a26 : PySem.W.nsIn K mainGlobals "law" = some (some (.ref f26))) (l26 : K.lookup f26 = some ⟨oc26, od26, .func (PySem.W.fnOf "law" "law" (defArgs s_law) (defBody s_law) (defScope s_law) .none kV26 dc26 pm26 an26 cd26 ct26), sl26⟩)
    (c26 : PySem.W.codeIn K cd26 "law" = true) (k26 : PySem.W.keepIn K (.ref f26) = true)
    (z0 : PySem.W.nsIn K mainGlobals "len" = some none)
    (z1 : PySem.W.nsIn K mainGlobals "range" = some none)
    (z2 : PySem.W.nsIn K mainGlobals "list" = some none)
    (z3 : PySem.W.nsIn K mainGlobals "tuple" = some none)
    (z4 : PySem.W.nsIn K mainGlobals "isinstance" = some none)
    (z5 : PySem.W.nsIn K mainGlobals "int" = some none)
    (z6 : PySem.W.nsIn K mainGlobals "bool" = some none)
    (z7 : PySem.W.nsIn K mainGlobals "str" = some none)
    (z8 : PySem.W.nsIn K mainGlobals "sum" = some none)
    (z9 : PySem.W.nsIn K mainGlobals "max" = some none)
    (z10 : PySem.W.nsIn K mainGlobals "min" = some none)
    (z11 : PySem.W.nsIn K mainGlobals "ValueError" = some none)
    (z12 : PySem.W.nsIn K mainGlobals "sorted" = some none)
    (z13 : PySem.W.nsIn K mainGlobals "enumerate" = some none)
    (z14 : PySem.W.nsIn K mainGlobals "reversed" = some none)
    (z15 : PySem.W.nsIn K mainGlobals "zip" = some none)
    (z16 : PySem.W.nsIn K mainGlobals "all" = some none)
    {cNoWords : Addr}
    (gNoWords : PySem.W.nsIn K mainGlobals "NoWords" = some (some (.ref cNoWords)))
    (xNoWords : PySem.W.excIn K cNoWords bmVE "ValueError.__new__" = true)
    {cNoOrder : Addr}
    (gNoOrder : PySem.W.nsIn K mainGlobals "NoOrder" = some (some (.ref cNoOrder)))
    (xNoOrder : PySem.W.excIn K cNoOrder bmVE "ValueError.__new__" = true)
    {cNoNest : Addr}
    (gNoNest : PySem.W.nsIn K mainGlobals "NoNest" = some (some (.ref cNoNest)))
    (xNoNest : PySem.W.excIn K cNoNest bmVE "ValueError.__new__" = true)
    {cNoText : Addr}
    (gNoText : PySem.W.nsIn K mainGlobals "NoText" = some (some (.ref cNoText)))
    (xNoText : PySem.W.excIn K cNoText bmVE "ValueError.__new__" = true)
    {mw ww w8 mb : Tok}
    (gM : PySem.W.nsIn K mainGlobals "MOST_WORDS" = some (some (.int 60 mw)))
    (gW : PySem.W.nsIn K mainGlobals "WORD_SIGNS" = some (some (.str wordSigns ww)))
    (gS : PySem.W.nsIn K mainGlobals "MOST_SIGNS" = some (some (.int 8 w8)))
    (gB : PySem.W.nsIn K mainGlobals "BARRED" = some (some (.str "barred" mb)))
    : ∃ fd : FuncData, (∀ (s : Shared) (v : Value), BindsTo s fd ⟨[v], []⟩ [("script", v)]) ∧ ∀ base : Heap, K.In base → base.Ns mainGlobals mg → FnOk l.prog w K mg base CX0 66 fa fd ["script"] (spLaw K) := by
  have e := hfa.symm.trans (PySem.W.mg_of X G a26)
  cases e
  have F0 := fun_mk (st := s_is_whole) l0 c0 k0
  have b0 := F0.binds (ps := ["thing"]) fun _ _ _ _ _ _ us hl => by obtain ⟨_, rfl⟩ := len_1 hl; rfl
  have m0 := PySem.W.mg_of X G a0
  have F1 := fun_mk (st := s_are_different_below) l1 c1 k1
  have b1 := F1.binds (ps := ["things", "bound"]) fun _ _ _ _ _ _ us hl => by obtain ⟨_, _, rfl⟩ := len_2 hl; rfl
  have m1 := PySem.W.mg_of X G a1
  have F2 := fun_mk (st := s_make_order) l2 c2 k2
  have b2 := F2.binds (ps := ["numbers"]) fun _ _ _ _ _ _ us hl => by obtain ⟨_, rfl⟩ := len_1 hl; rfl
  have m2 := PySem.W.mg_of X G a2
  have F3 := fun_mk (st := s_left_of) l3 c3 k3
  have b3 := F3.binds (ps := ["order", "words"]) fun _ _ _ _ _ _ us hl => by obtain ⟨_, _, rfl⟩ := len_2 hl; rfl
  have m3 := PySem.W.mg_of X G a3
  have F4 := fun_mk (st := s_must_be_words) l4 c4 k4
  have b4 := F4.binds (ps := ["words", "many"]) fun _ _ _ _ _ _ us hl => by obtain ⟨_, _, rfl⟩ := len_2 hl; rfl
  have m4 := PySem.W.mg_of X G a4
  have F5 := fun_mk (st := s_is_nest) l5 c5 k5
  have b5 := F5.binds (ps := ["thing"]) fun _ _ _ _ _ _ us hl => by obtain ⟨_, rfl⟩ := len_1 hl; rfl
  have m5 := PySem.W.mg_of X G a5
  have F6 := fun_mk (st := s_is_knot) l6 c6 k6
  have b6 := F6.binds (ps := ["thing"]) fun _ _ _ _ _ _ us hl => by obtain ⟨_, rfl⟩ := len_1 hl; rfl
  have m6 := PySem.W.mg_of X G a6
  have F7 := fun_mk (st := s_must_be_nest) l7 c7 k7
  have b7 := F7.binds (ps := ["thing"]) fun _ _ _ _ _ _ us hl => by obtain ⟨_, rfl⟩ := len_1 hl; rfl
  have m7 := PySem.W.mg_of X G a7
  have F8 := fun_mk (st := s_is_of_kind) l8 c8 k8
  have b8 := F8.binds (ps := ["nest", "kind"]) fun _ _ _ _ _ _ us hl => by obtain ⟨_, _, rfl⟩ := len_2 hl; rfl
  have m8 := PySem.W.mg_of X G a8
  have F9 := fun_mk (st := s_count_words) l9 c9 k9
  have b9 := F9.binds (ps := ["nest"]) fun _ _ _ _ _ _ us hl => by obtain ⟨_, rfl⟩ := len_1 hl; rfl
  have m9 := PySem.W.mg_of X G a9
  have F10 := fun_mk (st := s_shared_out) l10 c10 k10
  have b10 := F10.binds (ps := ["nest", "things"]) fun _ _ _ _ _ _ us hl => by obtain ⟨_, _, rfl⟩ := len_2 hl; rfl
  have m10 := PySem.W.mg_of X G a10
  have F11 := fun_mk (st := s_is_word) l11 c11 k11
  have b11 := F11.binds (ps := ["thing"]) fun _ _ _ _ _ _ us hl => by obtain ⟨_, rfl⟩ := len_1 hl; rfl
  have m11 := PySem.W.mg_of X G a11
  have F12 := fun_mk (st := s_must_be_row) l12 c12 k12
  have b12 := F12.binds (ps := ["words"]) fun _ _ _ _ _ _ us hl => by obtain ⟨_, rfl⟩ := len_1 hl; rfl
  have m12 := PySem.W.mg_of X G a12
  have F13 := fun_mk (st := s_seen_words) l13 c13 k13
  have b13 := F13.binds (ps := ["text"]) fun _ _ _ _ _ _ us hl => by obtain ⟨_, rfl⟩ := len_1 hl; rfl
  have m13 := PySem.W.mg_of X G a13
  have F14 := fun_mk (st := s_turned_from) l14 c14 k14
  have b14 := F14.binds (ps := ["row", "first"]) fun _ _ _ _ _ _ us hl => by obtain ⟨_, _, rfl⟩ := len_2 hl; rfl
  have m14 := PySem.W.mg_of X G a14
  have F15 := fun_mk (st := s_write) l15 c15 k15
  have b15 := F15.binds (ps := ["words", "nest"]) fun _ _ _ _ _ _ us hl => by obtain ⟨_, _, rfl⟩ := len_2 hl; rfl
  have m15 := PySem.W.mg_of X G a15
  have F16 := fun_mk (st := s_marked) l16 c16 k16
  have b16 := F16.binds (ps := ["nest", "words"]) fun _ _ _ _ _ _ us hl => by obtain ⟨_, _, rfl⟩ := len_2 hl; rfl
  have m16 := PySem.W.mg_of X G a16
  have F17 := fun_mk (st := s_cuts) l17 c17 k17
  have b17 := F17.binds (ps := ["order"]) fun _ _ _ _ _ _ us hl => by obtain ⟨_, rfl⟩ := len_1 hl; rfl
  have m17 := PySem.W.mg_of X G a17
  have F18 := fun_mk (st := s_nest_of) l18 c18 k18
  have b18 := F18.binds (ps := ["order"]) fun _ _ _ _ _ _ us hl => by obtain ⟨_, rfl⟩ := len_1 hl; rfl
  have m18 := PySem.W.mg_of X G a18
  have F19 := fun_mk (st := s_stretches) l19 c19 k19
  have b19 := F19.binds (ps := ["order", "places"]) fun _ _ _ _ _ _ us hl => by obtain ⟨_, _, rfl⟩ := len_2 hl; rfl
  have m19 := PySem.W.mg_of X G a19
  have F20 := fun_mk (st := s_law_mixed) l20 c20 k20
  have b20 := F20.binds (ps := ["cell", "k"]) fun _ _ _ _ _ _ us hl => by obtain ⟨_, _, rfl⟩ := len_2 hl; rfl
  have m20 := PySem.W.mg_of X G a20
  have F21 := fun_mk (st := s_law_word) l21 c21 k21
  have b21 := F21.binds (ps := ["cell"]) fun _ _ _ _ _ _ us hl => by obtain ⟨_, rfl⟩ := len_1 hl; rfl
  have m21 := PySem.W.mg_of X G a21
  have F22 := fun_mk (st := s_law_closed) l22 c22 k22
  have b22 := F22.binds (ps := ["pile"]) fun _ _ _ _ _ _ us hl => by obtain ⟨_, rfl⟩ := len_1 hl; rfl
  have m22 := PySem.W.mg_of X G a22
  have F23 := fun_mk (st := s_law_text) l23 c23 k23
  have b23 := F23.binds (ps := ["cells"]) fun _ _ _ _ _ _ us hl => by obtain ⟨_, rfl⟩ := len_1 hl; rfl
  have m23 := PySem.W.mg_of X G a23
  have F24 := fun_mk (st := s_law_order) l24 c24 k24
  have b24 := F24.binds (ps := ["parts"]) fun _ _ _ _ _ _ us hl => by obtain ⟨_, rfl⟩ := len_1 hl; rfl
  have m24 := PySem.W.mg_of X G a24
  have F25 := fun_mk (st := s_law_depth) l25 c25 k25
  have b25 := F25.binds (ps := ["parts"]) fun _ _ _ _ _ _ us hl => by obtain ⟨_, rfl⟩ := len_1 hl; rfl
  have m25 := PySem.W.mg_of X G a25
  have F26 := fun_mk (st := s_law) l26 c26 k26
  have y0 := PySem.W.mg_none_of X G z0
  have y1 := PySem.W.mg_none_of X G z1
  have y2 := PySem.W.mg_none_of X G z2
  have y3 := PySem.W.mg_none_of X G z3
  have y4 := PySem.W.mg_none_of X G z4
  have y5 := PySem.W.mg_none_of X G z5
  have y6 := PySem.W.mg_none_of X G z6
  have y7 := PySem.W.mg_none_of X G z7
  have y8 := PySem.W.mg_none_of X G z8
  have y9 := PySem.W.mg_none_of X G z9
  have y10 := PySem.W.mg_none_of X G z10
  have y11 := PySem.W.mg_none_of X G z11
  have y12 := PySem.W.mg_none_of X G z12
  have y13 := PySem.W.mg_none_of X G z13
  have y14 := PySem.W.mg_none_of X G z14
  have y15 := PySem.W.mg_none_of X G z15
  have y16 := PySem.W.mg_none_of X G z16
  have mNoWords := PySem.W.mg_of X G gNoWords
  have mNoOrder := PySem.W.mg_of X G gNoOrder
  have mNoNest := PySem.W.mg_of X G gNoNest
  have mNoText := PySem.W.mg_of X G gNoText
  have mM := PySem.W.mg_of X G gM
  have mW := PySem.W.mg_of X G gW
  have mS := PySem.W.mg_of X G gS
  have mB := PySem.W.mg_of X G gB
  have D_is_whole : Def K mg "is_whole" s_is_whole ["thing"] := ⟨f0, _, F0, k0, m0, b0⟩
  have D_are_different_below : Def K mg "are_different_below" s_are_different_below ["things", "bound"] := ⟨f1, _, F1, k1, m1, b1⟩
  have D_make_order : Def K mg "make_order" s_make_order ["numbers"] := ⟨f2, _, F2, k2, m2, b2⟩
  have D_left_of : Def K mg "left_of" s_left_of ["order", "words"] := ⟨f3, _, F3, k3, m3, b3⟩
  have D_must_be_words : Def K mg "must_be_words" s_must_be_words ["words", "many"] := ⟨f4, _, F4, k4, m4, b4⟩
  have D_is_nest : Def K mg "is_nest" s_is_nest ["thing"] := ⟨f5, _, F5, k5, m5, b5⟩
  have D_is_knot : Def K mg "is_knot" s_is_knot ["thing"] := ⟨f6, _, F6, k6, m6, b6⟩
  have D_must_be_nest : Def K mg "must_be_nest" s_must_be_nest ["thing"] := ⟨f7, _, F7, k7, m7, b7⟩
  have D_is_of_kind : Def K mg "is_of_kind" s_is_of_kind ["nest", "kind"] := ⟨f8, _, F8, k8, m8, b8⟩
  have D_count_words : Def K mg "count_words" s_count_words ["nest"] := ⟨f9, _, F9, k9, m9, b9⟩
  have D_shared_out : Def K mg "shared_out" s_shared_out ["nest", "things"] := ⟨f10, _, F10, k10, m10, b10⟩
  have D_is_word : Def K mg "is_word" s_is_word ["thing"] := ⟨f11, _, F11, k11, m11, b11⟩
  have D_must_be_row : Def K mg "must_be_row" s_must_be_row ["words"] := ⟨f12, _, F12, k12, m12, b12⟩
  have D_seen_words : Def K mg "seen_words" s_seen_words ["text"] := ⟨f13, _, F13, k13, m13, b13⟩
  have D_turned_from : Def K mg "turned_from" s_turned_from ["row", "first"] := ⟨f14, _, F14, k14, m14, b14⟩
  have D_write : Def K mg "write" s_write ["words", "nest"] := ⟨f15, _, F15, k15, m15, b15⟩
  have D_marked : Def K mg "marked" s_marked ["nest", "words"] := ⟨f16, _, F16, k16, m16, b16⟩
  have D_cuts : Def K mg "cuts" s_cuts ["order"] := ⟨f17, _, F17, k17, m17, b17⟩
  have D_nest_of : Def K mg "nest_of" s_nest_of ["order"] := ⟨f18, _, F18, k18, m18, b18⟩
  have D_stretches : Def K mg "stretches" s_stretches ["order", "places"] := ⟨f19, _, F19, k19, m19, b19⟩
  have D_law_mixed : Def K mg "_law_mixed" s_law_mixed ["cell", "k"] := ⟨f20, _, F20, k20, m20, b20⟩
  have D_law_word : Def K mg "_law_word" s_law_word ["cell"] := ⟨f21, _, F21, k21, m21, b21⟩
  have D_law_closed : Def K mg "_law_closed" s_law_closed ["pile"] := ⟨f22, _, F22, k22, m22, b22⟩
  have D_law_text : Def K mg "_law_text" s_law_text ["cells"] := ⟨f23, _, F23, k23, m23, b23⟩
  have D_law_order : Def K mg "_law_order" s_law_order ["parts"] := ⟨f24, _, F24, k24, m24, b24⟩
  have D_law_depth : Def K mg "_law_depth" s_law_depth ["parts"] := ⟨f25, _, F25, k25, m25, b25⟩
  have T : Txt mg := ⟨⟨y0, y1, y2, y3, y4, y5, y6⟩, y7, y8, y9, y10, y11, y12, y13, y14, y15, y16⟩
  have fin : ∀ base : Heap, FnOk l.prog w K mg base CX0 66 fa _ ["script"] (spLaw K) := fun base =>
    have GR := ok_mustrow D_must_be_row T (ok_word D_is_word T mW mS) mM mNoText xNoText
    have GW := ok_write D_write T (has_must D_is_nest D_is_knot D_must_be_nest T mM mNoNest xNoNest) (has_countw D_count_words T 60) GR (ok_marked D_marked T (has_countw D_count_words T) D_shared_out 60) (ok_ofkind D_is_of_kind) mNoText xNoText
    have GS := ok_seenw D_seen_words T (ok_turnedf D_turned_from T mNoText xNoText) GR mNoText xNoText
    have GF := has_left D_is_whole D_are_different_below D_left_of D_must_be_words T mNoWords xNoWords
    have GN := ok_nestof D_nest_of T mB (ok_cuts D_cuts T) (ok_stretches D_stretches T) GF 60
    have GX := ok_mixed D_law_mixed
    ok_law F26 T (ok_text D_law_text T GX (ok_lword D_law_word T GX) (ok_closed D_law_closed T)) (ok_lorder D_law_order T) GS (has_make D_is_whole D_are_different_below D_make_order T mNoOrder xNoOrder mM) GN GW (ok_ldepth D_law_depth T)
  exact ⟨PySem.W.fnOf "law" "law" (defArgs s_law) (defBody s_law) (defScope s_law) .none kV26 dc26 pm26 an26 cd26 ct26, fun s v => .of_eq rfl, fun base _ _ => fin base⟩
theorem walk {l : PySem.W.OpenLaw} {q : Program} {loose : List Str} {XP : (Str → Option Value) → Heap → Prop} {YP : World → Heap → Prop} {d : DefRec} {K : Params → PySem.W.Frag} (hn : l.most = some 63) (hdf : d.params.defaults = [])
    (hY : ∀ (w : World) (h : Heap), YP w h → (K w.params).In h)
    (F : ∀ (w : World) (mg : Str → Option Value) (fa : Addr) (h : Heap), (K w.params).In h → h.Ns mainGlobals mg → mg d.name = some (.ref fa) → ∃ fd : FuncData, (∀ (s : Shared) (u : Value), BindsTo s fd ⟨[u], []⟩ [("script", u)]) ∧ ∀ base : Heap, (K w.params).In base → base.Ns mainGlobals mg → FnOk l.prog w (K w.params) mg base CX0 66 fa fd ["script"] (spLaw (K w.params))) :
    PySem.W.WalkO q loose XP YP l.row.toRowW d [] (fun f vs => PySem.call f vs) :=
  L2.walk_of (n := 63) (k := 66) (x := "script") (CX := fun _ => CX0) (sp := fun w => spLaw (K w.params)) hn (by decide) hdf ⟨rfl, by decide, by decide, rfl⟩ hY F (fun _ _ a ns hl _ hS => ⟨a, ns, rfl, hS, hl, fun _ => rfl⟩) fun _ _ _ _ _ z => z
end K82
open PySem PySem.W PyProof.Rows
set_option maxRecDepth 100000 in
set_option maxHeartbeats 0 in
theorem PySem.Challenge.cw_turnnest_k82_whole_marked_texts_holds : PySem.Challenge.rw_turnnest_k82_whole_marked_texts.Holds := by
  w_on; o_law; k_head; (case hw => w_witness2)
  k_fill
  refine K82.walk (l := PySem.Challenge.rw_turnnest_k82_whole_marked_texts) rfl rfl (fun w h Y => PySem.W.kIn_of Y) ?F
  case F =>
    intro w mg fa h KX G hmg
    refine' K82.all_mk KX G hmg ?a0 ?l0 ?c0 ?k0 ?a1 ?l1 ?c1 ?k1 ?a2 ?l2 ?c2 ?k2 ?a3 ?l3 ?c3 ?k3 ?a4 ?l4 ?c4 ?k4 ?a5 ?l5 ?c5 ?k5 ?a6 ?l6 ?c6 ?k6 ?a7 ?l7 ?c7 ?k7 ?a8 ?l8 ?c8 ?k8 ?a9 ?l9 ?c9 ?k9 ?a10 ?l10 ?c10 ?k10 ?a11 ?l11 ?c11 ?k11 ?a12 ?l12 ?c12 ?k12 ?a13 ?l13 ?c13 ?k13 ?a14 ?l14 ?c14 ?k14 ?a15 ?l15 ?c15 ?k15 ?a16 ?l16 ?c16 ?k16 ?a17 ?l17 ?c17 ?k17 ?a18 ?l18 ?c18 ?k18 ?a19 ?l19 ?c19 ?k19 ?a20 ?l20 ?c20 ?k20 ?a21 ?l21 ?c21 ?k21 ?a22 ?l22 ?c22 ?k22 ?a23 ?l23 ?c23 ?k23 ?a24 ?l24 ?c24 ?k24 ?a25 ?l25 ?c25 ?k25 ?a26 ?l26 ?c26 ?k26 ?z0 ?z1 ?z2 ?z3 ?z4 ?z5 ?z6 ?z7 ?z8 ?z9 ?z10 ?z11 ?z12 ?z13 ?z14 ?z15 ?z16 ?gNoWords ?xNoWords ?gNoOrder ?xNoOrder ?gNoNest ?xNoNest ?gNoText ?xNoText ?gM ?gW ?gS ?gB
    (case a0 => k_is)
    (case l0 => k_is)
    (case c0 => k_is)
    (case k0 => k_is)
    (case a1 => k_is)
    (case l1 => k_is)
    (case c1 => k_is)
    (case k1 => k_is)
    (case a2 => k_is)
    (case l2 => k_is)
    (case c2 => k_is)
    (case k2 => k_is)
    (case a3 => k_is)
    (case l3 => k_is)
    (case c3 => k_is)
    (case k3 => k_is)
    (case a4 => k_is)
    (case l4 => k_is)
    (case c4 => k_is)
    (case k4 => k_is)
    (case a5 => k_is)
    (case l5 => k_is)
    (case c5 => k_is)
    (case k5 => k_is)
    (case a6 => k_is)
    (case l6 => k_is)
    (case c6 => k_is)
    (case k6 => k_is)
    (case a7 => k_is)
    (case l7 => k_is)
    (case c7 => k_is)
    (case k7 => k_is)
    (case a8 => k_is)
    (case l8 => k_is)
    (case c8 => k_is)
    (case k8 => k_is)
    (case a9 => k_is)
    (case l9 => k_is)
    (case c9 => k_is)
    (case k9 => k_is)
    (case a10 => k_is)
    (case l10 => k_is)
    (case c10 => k_is)
    (case k10 => k_is)
    (case a11 => k_is)
    (case l11 => k_is)
    (case c11 => k_is)
    (case k11 => k_is)
    (case a12 => k_is)
    (case l12 => k_is)
    (case c12 => k_is)
    (case k12 => k_is)
    (case a13 => k_is)
    (case l13 => k_is)
    (case c13 => k_is)
    (case k13 => k_is)
    (case a14 => k_is)
    (case l14 => k_is)
    (case c14 => k_is)
    (case k14 => k_is)
    (case a15 => k_is)
    (case l15 => k_is)
    (case c15 => k_is)
    (case k15 => k_is)
    (case a16 => k_is)
    (case l16 => k_is)
    (case c16 => k_is)
    (case k16 => k_is)
    (case a17 => k_is)
    (case l17 => k_is)
    (case c17 => k_is)
    (case k17 => k_is)
    (case a18 => k_is)
    (case l18 => k_is)
    (case c18 => k_is)
    (case k18 => k_is)
    (case a19 => k_is)
    (case l19 => k_is)
    (case c19 => k_is)
    (case k19 => k_is)
    (case a20 => k_is)
    (case l20 => k_is)
    (case c20 => k_is)
    (case k20 => k_is)
    (case a21 => k_is)
    (case l21 => k_is)
    (case c21 => k_is)
    (case k21 => k_is)
    (case a22 => k_is)
    (case l22 => k_is)
    (case c22 => k_is)
    (case k22 => k_is)
    (case a23 => k_is)
    (case l23 => k_is)
    (case c23 => k_is)
    (case k23 => k_is)
    (case a24 => k_is)
    (case l24 => k_is)
    (case c24 => k_is)
    (case k24 => k_is)
    (case a25 => k_is)
    (case l25 => k_is)
    (case c25 => k_is)
    (case k25 => k_is)
    (case a26 => k_is)
    (case l26 => k_is)
    (case c26 => k_is)
    (case k26 => k_is)
    (case z0 => k_is)
    (case z1 => k_is)
    (case z2 => k_is)
    (case z3 => k_is)
    (case z4 => k_is)
    (case z5 => k_is)
    (case z6 => k_is)
    (case z7 => k_is)
    (case z8 => k_is)
    (case z9 => k_is)
    (case z10 => k_is)
    (case z11 => k_is)
    (case z12 => k_is)
    (case z13 => k_is)
    (case z14 => k_is)
    (case z15 => k_is)
    (case z16 => k_is)
    (case gNoWords => k_is)
    (case xNoWords => k_exc)
    (case gNoOrder => k_is)
    (case xNoOrder => k_exc)
    (case gNoNest => k_is)
    (case xNoNest => k_exc)
    (case gNoText => k_is)
    (case xNoText => k_exc)
    (case gM => k_is)
    (case gW => k_is)
    (case gS => k_is)
    (case gB => k_is)
