import PyProof.Rows.All
import Wide.All
import OpenK.AllK
import Wide.FinOn
import Lean
import PyProof.EqAt
import PyProof.EqKinds
import PyProof.TupleCall
import PyProof.NsDelKeeps
import PyProof.NeKinds
import PyProof.ListRange
import PyProof.SumWalkG
import PyProof.WalkInts
import PyProof.SeqI3
import KE.KUnpack
import PyProof.ReprRoads
import PySem.Challenge.RW_turnnest_k14_whole_nests_written
set_option Elab.async false
set_option linter.all false
set_option maxRecDepth 100000
namespace L2
open PySem PySem.Spec PyProof.Rows
abbrev Key := Sum Int Str
def keyIs : Key → Value → Bool
  | .inl k, v => Value.isInt k v
  | .inr x, v => Value.isStrOf x v
def keyH (w : World) : Key → Int
  | .inl k => hashInt k
  | .inr x => hashStr w x
theorem keyIs_shape : ∀ {k : Key} {v : Value}, keyIs k v = true → (∃ i t, k = Sum.inl i ∧ v = Value.int i t) ∨ (∃ x t, k = Sum.inr x ∧ v = Value.str x t)
  | .inl i, v, h => by
    obtain ⟨t, e⟩ := Value.isInt_shape (k := i) (v := v) h
    exact .inl ⟨i, t, rfl, e⟩
  | .inr x, v, h => by
    obtain ⟨t, e⟩ := Value.isStrOf_shape (x := x) (v := v) h
    exact .inr ⟨x, t, rfl, e⟩
theorem key_ll (a b : Int) : decide ((Sum.inl a : Key) = Sum.inl b) = (a == b) := by
  by_cases e : a = b
  · subst e; simp
  · have h : ¬ (Sum.inl a : Key) = Sum.inl b := fun q => e (Sum.inl.inj q)
    rw [decide_eq_false h]
    exact (beq_eq_false_iff_ne.mpr e).symm
theorem key_rr (a b : Str) : decide ((Sum.inr a : Key) = Sum.inr b) = decide (a = b) := by
  by_cases e : a = b
  · subst e; simp
  · have h : ¬ (Sum.inr a : Key) = Sum.inr b := fun q => e (Sum.inr.inj q)
    rw [decide_eq_false h, decide_eq_false e]
theorem key_lr (a : Int) (b : Str) : decide ((Sum.inl a : Key) = Sum.inr b) = false := decide_eq_false (fun q => nomatch q)
theorem key_rl (a : Str) (b : Int) : decide ((Sum.inr a : Key) = Sum.inl b) = false := decide_eq_false (fun q => nomatch q)
def mixKind (prog : Program) (w : World) : PySem.KeyKind prog w Key where
  is := keyIs
  hash := keyH w
  inj := fun v a b ha hb => by
    rcases keyIs_shape ha with ⟨i, t, rfl, rfl⟩ | ⟨x, t, rfl, rfl⟩
    · rcases keyIs_shape hb with ⟨j, u, rfl, e⟩ | ⟨y, u, rfl, e⟩
      · injection e with e1 _; rw [e1]
      · exact nomatch e
    · rcases keyIs_shape hb with ⟨j, u, rfl, e⟩ | ⟨y, u, rfl, e⟩
      · exact nomatch e
      · injection e with e1 _; rw [e1]
  byValue := fun k v h => by
    rcases keyIs_shape h with ⟨i, t, rfl, rfl⟩ | ⟨x, t, rfl, rfl⟩ <;> rfl
  pyHash := fun hv h => by
    rcases keyIs_shape hv with ⟨i, t, rfl, rfl⟩ | ⟨x, t, rfl, rfl⟩
    · exact wpAny_pyHash_int h
    · exact wpAny_pyHash_str h
  eqBool := fun hu hv h => by
    rcases keyIs_shape hu with ⟨i, t, rfl, rfl⟩ | ⟨x, t, rfl, rfl⟩
    · rcases keyIs_shape hv with ⟨j, u, rfl, rfl⟩ | ⟨y, u, rfl, rfl⟩
      · rw [key_ll] at h; exact wpAny_eqBool_int h
      · rw [key_lr] at h; exact SeqAt.EqAt.int_str i t y u _ _ _ _ h
    · rcases keyIs_shape hv with ⟨j, u, rfl, rfl⟩ | ⟨y, u, rfl, rfl⟩
      · rw [key_rl] at h; exact SeqAt.EqAt.str_int x t j u _ _ _ _ h
      · rw [key_rr] at h; exact wpAny_eqBool_str h
  «strs» := fun k x t v h => by
    rcases keyIs_shape h with ⟨i, u, rfl, e⟩ | ⟨y, u, rfl, e⟩
    · exact nomatch e
    · injection e with e1 _
      subst e1
      cases v <;> rfl
end L2
namespace L2
open PySem PySem.Spec PyProof.Rows
inductive V where
  | non | bl (b : Bool) | int (i : Int) | str (x : Str) | byt (b : Array UInt8) | flt (b : UInt64) | ref (a : Addr) | ty (n : String)
  deriving DecidableEq
def RelV : V → Value → Prop
  | .non, u => u = Value.none
  | .bl b, u => u = Value.bool b
  | .int i, u => ∃ t, u = Value.int i t
  | .str x, u => ∃ t, u = Value.str x t
  | .byt b, u => ∃ t, u = Value.bytes b t
  | .flt b, u => ∃ t, u = Value.float b t
  | .ref a, u => u = Value.ref a
  | .ty n, u => u = Value.type n
abbrev Vals : List V → List Value → Prop := Paired RelV
theorem Vals.length {xs : List V} {us : List Value} (r : Vals xs us) : xs.length = us.length := Paired.length r
theorem Vals.get : ∀ {xs : List V} {us : List Value} {i : Nat} {x : V}, Vals xs us → xs[i]? = some x → ∃ u, us[i]? = some u ∧ RelV x u
  | _, _, _, _, .nil, e => by simp at e
  | _, _, 0, _, .cons r _, e => by simp at e; subst e; exact ⟨_, rfl, r⟩
  | _, _, i + 1, x, .cons _ t, e => by
    obtain ⟨u, h1, h2⟩ := Vals.get (i := i) (x := x) t (by simpa using e)
    exact ⟨u, by simpa using h1, h2⟩
theorem Vals.append : ∀ {xs ys : List V} {us ws : List Value}, Vals xs us → Vals ys ws → Vals (xs ++ ys) (us ++ ws)
  | _, _, _, _, .nil, s => s
  | _, _, _, _, .cons r t, s => .cons r (Vals.append t s)
theorem Vals.take : ∀ {xs : List V} {us : List Value} (n : Nat), Vals xs us → Vals (xs.take n) (us.take n)
  | _, _, 0, _ => .nil
  | _, _, _ + 1, .nil => .nil
  | _, _, n + 1, .cons r t => .cons r (Vals.take n t)
theorem Vals.drop : ∀ {xs : List V} {us : List Value} (n : Nat), Vals xs us → Vals (xs.drop n) (us.drop n)
  | _, _, 0, r => r
  | _, _, _ + 1, .nil => .nil
  | _, _, n + 1, .cons _ t => Vals.drop n t
def RelO : Option V → Option Value → Prop
  | some v, some u => RelV v u
  | none, none => True
  | _, _ => False
def KV {κ : Type} : List (κ × V) → List (κ × Value) → Prop := Paired fun (p : κ × V) (q : κ × Value) => p.1 = q.1 ∧ RelV p.2 q.2
def kV : Key → V
  | .inl i => .int i
  | .inr x => .str x
def IsTupN (h : Heap) (a : Addr) (items : Array Value) : Prop := ∃ o, h.get? a = some o ∧ o.cls = .type "tuple" ∧ (∃ n, o.data = .seq items n) ∧ o.dict = none
theorem IsTupN.tup {h : Heap} {a : Addr} {items : Array Value} (x : IsTupN h a items) : IsTup h a items := let ⟨o, e, c, d, _⟩ := x; ⟨o, e, c, d⟩
theorem IsTupN.new (h : Heap) (items : Array Value) : IsTupN (h.push { cls := .type "tuple", data := .seq items }) h.objs.size items := ⟨_, Heap.get?_push_size _ rfl, rfl, ⟨_, rfl⟩, rfl⟩
inductive HO where
  /-- a list -/
  | lst (xs : List V)
  /-- a tuple (never changes) -/
  | tup (xs : List V)
  /-- a dict whose keys are ints and texts; one whose keys are tuples of ints and texts (the empty one is both) -/
  | dK (kvs : List (Key × V)) | dT (kvs : List (List Key × V))
  /-- a set of ints: its members, its size -/
  | set (S : Int → Bool) (n : Nat)
  /-- an instance of the class at C, its dict at dx, its attributes -/
  | ins (C dx : Addr) (fs : List (Str × V))
  /-- the dict of the instance at x -/
  | own (x : Addr)
  /-- the dict of an exception -/
  | xd (fs : List (Str × V))
  /-- a bound method, f of x -/
  | met (f x : Addr)
  /-- a range object lo, lo + 1, .. below hi -/
  | rng (lo hi : Int)
  /-- a thing that is known to the object (the script; a dict while a loop walks it): read, never written while it is so -/
  | frz (o : Obj) (u : HO)
  /-- a code object's table -/
  | tbl (ps : Array Value)
  | lam (q : Str)
  /-- any other thing, by what is true of its one object (a def of one's own: SetO a S n := HO.ext fun h => ..) -/
  | ext (φ : Heap → Prop)
abbrev Hp := Addr → Option HO
def upd (H : Hp) (a : Addr) (o : HO) : Hp := fun b => if b = a then some o else H b
theorem upd_same {H : Hp} {a : Addr} {o : HO} : upd H a o a = some o := by unfold upd; rw [if_pos rfl]
theorem upd_ne {H : Hp} {a b : Addr} {o : HO} (h : b ≠ a) : upd H a o b = H b := by unfold upd; rw [if_neg h]
theorem ne_of {H : Hp} {a b : Addr} {o u : HO} (h : H a = some o) (h' : H b = some u) (d : o ≠ u) : a ≠ b := by
  intro e; subst e; rw [h] at h'; exact d (Option.some.inj h')
theorem ne_of_none {H : Hp} {a b : Addr} {o : HO} (h : H a = some o) (h' : H b = none) : a ≠ b := by
  intro e; subst e; rw [h] at h'; cases h'
section
variable (P : Program) (w : World)
def ObjOk (H : Hp) (h : Heap) (a : Addr) : HO → Prop
  | .lst xs => xs.length ≤ sizeLine ∧ ∃ (its : List Value) (n : Nat), Vals xs its ∧ h.get? a = some { cls := .type "list", data := .seq its.toArray n }
  | .tup xs => xs.length ≤ sizeLine ∧ ∃ its : List Value, Vals xs its ∧ IsTupN h a its.toArray
  | .dK kvs => kvs.length ≤ sizeLine ∧ (a == sysModules) = false ∧ ∃ vs, KV kvs vs ∧ h.DictOf (mixKind P w) a vs
  | .dT kvs => kvs.length ≤ sizeLine ∧ (a == sysModules) = false ∧ ∃ xs : List (List Key × Addr × Value),
      Paired (fun (p : List Key × V) (q : List Key × Addr × Value) => p.1 = q.1 ∧ H q.2.1 = some (.tup (p.1.map kV)) ∧ RelV p.2 q.2.2) kvs xs ∧
      ∃ o es ep, h.get? a = some o ∧ o.ExactDict ∧ o.data = .dict es ep ∧ es.toList = xs.map (entryOfKey (tupleKind (mixKind P w))) ∧ (xs.map (·.1)).Nodup
  | .set S n => h.SetOf (intKind P w) a S n
  | .ins C dx fs => H dx = some (.own a) ∧ fs.length ≤ 1000 ∧ dx ≠ a ∧ h.get? a = some (PySem.W.instObj C dx) ∧
      ∃ mA, h.Ns1 dx mA ∧ (∀ f, RelO (fs.lookup f) (mA f)) ∧ PySem.Within mA (fs.map (·.1))
  | .own _ => ∃ o, h.get? a = some o
  | .xd fs => ∃ mA, h.Ns1 a mA ∧ ∀ f, RelO (fs.lookup f) (mA f)
  | .rng lo hi => ∃ t u v, h.get? a = some { cls := .type "range", data := .fields #[.int lo t, .int hi u, .int 1 v] }
  | .frz o u => h.get? a = some o ∧ ObjOk H h a u
  | .tbl ps => h.get? a = some { cls := .none, data := .fields ps }
  | .lam q => ∃ ps : Array Value, h.get? a = some { cls := .none, data := .fields ps } ∧ TriplesOk ps.toList ∧ ∀ (pos : Pos) (cv : Value), codeAmong pos ps.toList = some cv →
      ∃ (c : Addr) (oc : Obj) (fv : Array Value) (t : Tok), cv = .ref c ∧ H c = some (.frz oc (.own c)) ∧ oc.data = .fields fv ∧ fv[1]? = some (.str q t)
  | .met f x => h.get? a = some (PySem.W.methodObj (.ref f) (.ref x))
  | .ext φ => φ h ∧ (∃ o, h.get? a = some o) ∧ ∀ h1 h2 : Heap, φ h1 → (∀ o, h1.get? a = some o → h2.get? a = some o) → φ h2
def HOk (H : Hp) (h : Heap) : Prop := ∀ a o, H a = some o → ObjOk P w H h a o
end
section
variable {P : Program} {w : World} {H H' : Hp} {h h' : Heap} {a : Addr} {o : HO}
theorem ObjOk.lt (x : ObjOk P w H h a o) : a < h.objs.size := by
  cases o with
  | lst xs => obtain ⟨_, _, _, _, e⟩ := x; exact Heap.lt_size e
  | tup xs => obtain ⟨_, _, _, p⟩ := x; exact p.tup.lt
  | dK kvs => obtain ⟨_, _, _, _, o, _, _, e, _⟩ := x; exact Heap.lt_size e
  | dT kvs => obtain ⟨_, _, _, _, o, _, _, e, _⟩ := x; exact Heap.lt_size e
  | set S n => obtain ⟨o, _, _, _, e, _⟩ := x; exact Heap.lt_size e
  | ins C dx fs => obtain ⟨_, _, _, e, _⟩ := x; exact Heap.lt_size e
  | own y => obtain ⟨_, e⟩ := x; exact Heap.lt_size e
  | xd fs => obtain ⟨_, ⟨_, _, _, e, _⟩, _⟩ := x; exact Heap.lt_size e
  | rng lo hi => obtain ⟨_, _, _, e⟩ := x; exact Heap.lt_size e
  | frz ob u => obtain ⟨e, _⟩ := x; exact Heap.lt_size e
  | tbl ps => exact Heap.lt_size (show h.get? a = some _ from x)
  | lam q => obtain ⟨_, e, _⟩ := x; exact Heap.lt_size e
  | met f y => exact Heap.lt_size (show h.get? a = some _ from x)
  | ext φ => obtain ⟨_, ⟨_, e⟩, _⟩ := x; exact Heap.lt_size e
theorem Paired.mapP {α β : Type} {F G : α → β → Prop} : ∀ {l₁ : List α} {l₂ : List β}, Paired F l₁ l₂ → (∀ a b, F a b → G a b) → Paired G l₁ l₂
  | _, _, .nil, _ => .nil
  | _, _, .cons r t, f => .cons (f _ _ r) (Paired.mapP t f)
theorem ObjOk.stay (x : ObjOk P w H h a o) (k : ∀ b u, (b = a ∨ H b = some (.own a)) → h.get? b = some u → h'.get? b = some u)
    (ho : ∀ b, H b = some (.own a) → H' b = some (.own a)) (ht : ∀ b xs, H b = some (.tup xs) → H' b = some (.tup xs)) (hf : ∀ b ob u, H b = some (.frz ob u) → H' b = some (.frz ob u) := by first | exact fun _ _ _ z => z | (intro c ob u z; rw [upd_ne (ne_of_none z (by assumption))]; exact z)) : ObjOk P w H' h' a o := by
  induction o with
  | lst xs => obtain ⟨z, its, n, r, e⟩ := x; exact ⟨z, its, n, r, k _ _ (.inl rfl) e⟩
  | tup xs => obtain ⟨z, its, r, ob, e, c⟩ := x; exact ⟨z, its, r, ob, k _ _ (.inl rfl) e, c⟩
  | dK kvs => obtain ⟨z, y, vs, r, ob, es, ep, e, c⟩ := x; exact ⟨z, y, vs, r, ob, es, ep, k _ _ (.inl rfl) e, c⟩
  | dT kvs =>
    obtain ⟨z, y, xs, r, ob, es, ep, e, c⟩ := x
    exact ⟨z, y, xs, Paired.mapP r fun p q z => ⟨z.1, ht _ _ z.2.1, z.2.2⟩, ob, es, ep, k _ _ (.inl rfl) e, c⟩
  | set S n => obtain ⟨ob, es, ep, t, e, c⟩ := x; exact ⟨ob, es, ep, t, k _ _ (.inl rfl) e, c⟩
  | ins C dx fs =>
    obtain ⟨d, z, ne, e, mA, ⟨od, es, ep, e2, c⟩, r⟩ := x
    exact ⟨ho _ d, z, ne, k _ _ (.inl rfl) e, mA, ⟨od, es, ep, k _ _ (.inr d) e2, c⟩, r⟩
  | own y => obtain ⟨ob, e⟩ := x; exact ⟨ob, k _ _ (.inl rfl) e⟩
  | xd fs => obtain ⟨mA, ⟨od, es, ep, e, c⟩, r⟩ := x; exact ⟨mA, ⟨od, es, ep, k _ _ (.inl rfl) e, c⟩, r⟩
  | rng lo hi => obtain ⟨t, u, v, e⟩ := x; exact ⟨t, u, v, k _ _ (.inl rfl) e⟩
  | frz ob u ih => obtain ⟨e, q⟩ := x; exact ⟨k _ _ (.inl rfl) e, ih q⟩
  | tbl ps =>
    have e : h.get? a = some { cls := .none, data := .fields ps } := x
    show h'.get? a = some { cls := .none, data := .fields ps }
    exact k a _ (.inl rfl) e
  | met f y =>
    have e : h.get? a = some (PySem.W.methodObj (.ref f) (.ref y)) := x
    show h'.get? a = some (PySem.W.methodObj (.ref f) (.ref y))
    exact k a _ (.inl rfl) e
  | lam q => obtain ⟨ps, e, t, c⟩ := x; exact ⟨ps, k _ _ (.inl rfl) e, t, fun pos cv z => let ⟨c', oc, fv, tk, q1, q2, q3⟩ := c pos cv z; ⟨c', oc, fv, tk, q1, hf _ _ _ q2, q3⟩⟩
  | ext φ => obtain ⟨p, ⟨o, e⟩, st⟩ := x; exact ⟨st _ _ p fun o q => k _ _ (.inl rfl) q, ⟨o, k _ _ (.inl rfl) e⟩, st⟩
theorem HOk.lt (x : HOk P w H h) (e : H a = some o) : a < h.objs.size := (x a o e).lt
theorem HOk.fresh (x : HOk P w H h) (e : h.objs.size ≤ a) : H a = none := by
  cases q : H a with
  | none => rfl
  | some u => exact absurd (Nat.lt_of_lt_of_le (x.lt q) e) (Nat.lt_irrefl _)
theorem HOk.kept (x : HOk P w H h) (k : ∀ b u, h.get? b = some u → h'.get? b = some u) : HOk P w H h' := fun a o e =>
  (x a o e).stay (fun b u _ q => k b u q) (fun _ q => q) (fun _ _ q => q) fun _ _ _ q => q
theorem HOk.laid (x : HOk P w H h) (k : ∀ b u, h.get? b = some u → h'.get? b = some u) (hp : h.objs.size ≤ a) (new : ObjOk P w (upd H a o) h' a o) : HOk P w (upd H a o) h' := fun b u e => by
  have hn := x.fresh hp
  by_cases hb : b = a
  · subst hb; rw [upd_same] at e; cases e; exact new
  · rw [upd_ne hb] at e
    exact (x b u e).stay (fun c v _ q => k c v q) (fun c q => by rw [upd_ne (ne_of_none q hn)]; exact q) (fun c xs q => by rw [upd_ne (ne_of_none q hn)]; exact q) fun c ob xs q => by rw [upd_ne (ne_of_none q hn)]; exact q
end
def Rd (H : Hp) (a : Addr) (u : HO) : Prop := H a = some u ∨ ∃ o, H a = some (.frz o u)
theorem Rd.ok {P : Program} {w : World} {H : Hp} {h : Heap} {a : Addr} {u : HO} (r : Rd H a u) (x : HOk P w H h) : ObjOk P w H h a u := by
  rcases r with r | ⟨o, r⟩
  · exact x a u r
  · obtain ⟨_, q⟩ := x a _ r
    exact q
def Mut : Option HO → Prop
  | some (.lst _) => True
  | some (.dK _) => True
  | some (.dT _) => True
  | some (.set _ _) => True
  | some (.ins _ _ _) => True
  | some (.ext _) => True
  | some (.lam _) => True
  | _ => False
section
variable {P : Program} {w : World} {H : Hp} {h h' : Heap} {x e : Addr} {o' : HO}
theorem HOk.write (ok : HOk P w H h) (mu : Mut (H x)) (he : e = x ∨ H e = some (.own x)) (k : ∀ b u, b ≠ e → h.get? b = some u → h'.get? b = some u) (heo : ∃ u, h'.get? e = some u)
    (new : ObjOk P w (upd H x o') h' x o') : HOk P w (upd H x o') h' := fun b u q => by
  have nown : ∀ c y, H c = some (.own y) → c ≠ x := fun c y r z => by subst z; rw [r] at mu; exact mu
  have ntup : ∀ c xs, H c = some (.tup xs) → c ≠ x := fun c xs r z => by subst z; rw [r] at mu; exact mu
  have nfrz : ∀ c ob xs, H c = some (.frz ob xs) → c ≠ x := fun c ob xs r z => by subst z; rw [r] at mu; exact mu
  by_cases hb : b = x
  · subst hb; rw [upd_same] at q; cases q; exact new
  · rw [upd_ne hb] at q
    by_cases hbe : b = e
    · have q' : H b = some (.own x) := by
        rcases he with z | z
        · exact absurd (hbe.trans z) hb
        · rw [hbe]; exact z
      rw [q] at q'; cases q'
      obtain ⟨v, hv⟩ := heo
      exact ⟨v, by rw [hbe]; exact hv⟩
    · refine (ok b u q).stay (fun c v hc r => k c v ?_ r) (fun c r => by rw [upd_ne (nown c b r)]; exact r) (fun c xs r => by rw [upd_ne (ntup c xs r)]; exact r) fun c ob xs r => by rw [upd_ne (nfrz c ob xs r)]; exact r
      rcases hc with rfl | hc
      · exact hbe
      · rintro rfl
        rcases he with z | z
        · exact nown c b hc z
        · rw [hc] at z; cases z; exact hb rfl
end
structure Un (fs ex : List Addr) (H H' : Hp) (h h' : Heap) : Prop where
  keep : ∀ b o, h.get? b = some o → H b = none → b ∉ fs → b ∉ ex → h'.get? b = some o
  slot : ∀ b o, h.get? b = some o → H b = none → b ∈ fs → b ∉ ex → ∃ sl, h'.get? b = some { o with slots := sl }
  free : ∀ b o, h.get? b = some o → H b = none → b ∉ ex → H' b = none
  there : ∀ b o, h.get? b = some o → b ∉ ex → ∃ o', h'.get? b = some o'
  tups : ∀ b xs, H b = some (.tup xs) → H' b = some (.tup xs)
  frzs : ∀ b o u, H b = some (.frz o u) → H' b = some (.frz o u)
  tbls : ∀ b ps, H b = some (.tbl ps) → ∃ more, H' b = some (.tbl (ps ++ more))
section
variable {fs fs' ex ex' : List Addr} {H H1 H2 : Hp} {h h1 h2 h' : Heap} {a x e : Addr} {o : HO}
theorem Un.any (u : Un fs ex H H1 h h1) {b : Addr} {ob : Obj} (q : h.get? b = some ob) (n : H b = none) (hx : b ∉ ex) : ∃ sl, h1.get? b = some { ob with slots := sl } := by
  by_cases hb : b ∈ fs
  · exact u.slot b ob q n hb hx
  · exact ⟨ob.slots, u.keep b ob q n hb hx⟩
theorem Un.kept (k : ∀ b u, h.get? b = some u → h'.get? b = some u) : Un fs ex H H h h' :=
  ⟨fun b ob q _ _ _ => k b ob q, fun b ob q _ _ _ => ⟨ob.slots, k b ob q⟩, fun _ _ _ n _ => n, fun b ob q _ => ⟨ob, k b ob q⟩, fun _ _ q => q, fun _ _ _ q => q, fun _ ps q => ⟨#[], by rw [q]; simp⟩⟩
theorem Un.refl : Un fs ex H H h h := Un.kept fun _ _ q => q
theorem Un.laid (k : ∀ b u, h.get? b = some u → h'.get? b = some u) (hp : h.objs.size ≤ a) (hn : H a = none) : Un fs ex H (upd H a o) h h' where
  keep := fun b u q _ _ _ => k b u q
  slot := fun b u q _ _ _ => ⟨u.slots, k b u q⟩
  free := fun b u q n _ => by rw [upd_ne (Nat.ne_of_lt (Nat.lt_of_lt_of_le (Heap.lt_size q) hp))]; exact n
  there := fun b u q _ => ⟨u, k b u q⟩
  tups := fun b xs q => by rw [upd_ne (ne_of_none q hn)]; exact q
  frzs := fun b u xs q => by rw [upd_ne (ne_of_none q hn)]; exact q
  tbls := fun b ps q => ⟨#[], by rw [upd_ne (ne_of_none q hn), q]; simp⟩
theorem Un.write (mu : Mut (H x)) (he : e = x ∨ H e = some (.own x)) (k : ∀ b u, b ≠ e → h.get? b = some u → h'.get? b = some u) (heo : ∃ u, h'.get? e = some u) : Un fs ex H (upd H x o) h h' := by
  have hx : ∀ b, H b = none → b ≠ x := fun b n z => by subst z; rw [n] at mu; exact mu
  have hb : ∀ b, H b = none → b ≠ e := fun b n z => by
    subst z
    rcases he with r | r
    · exact hx b n r
    · rw [n] at r; cases r
  have hm : ∀ b u, H b = some u → ¬ Mut (some u) → b ≠ x := fun b u q nm z => by subst z; rw [q] at mu; exact nm mu
  refine ⟨fun b u q n _ _ => k b u (hb b n) q, fun b u q n _ _ => ⟨u.slots, k b u (hb b n) q⟩, fun b u q n _ => by rw [upd_ne (hx b n)]; exact n, fun b u q _ => ?_,
    fun b xs q => by rw [upd_ne (hm b _ q fun z => z)]; exact q, fun b u xs q => by rw [upd_ne (hm b _ q fun z => z)]; exact q, fun b ps q => ⟨#[], by rw [upd_ne (hm b _ q fun z => z), q]; simp⟩⟩
  by_cases hbe : b = e
  · subst hbe; exact heo
  · exact ⟨u, k b u hbe q⟩
end
def trk (h : Heap) (H : Hp) : List Addr := (List.range h.objs.size).filter fun a => (H a).isSome
def hidT (h : Heap) (H : Hp) : Heap := PySem.W.hideAll h (trk h H)
theorem hidT_size (h : Heap) (H : Hp) : (hidT h H).objs.size = h.objs.size := PySem.W.hideAll_size _ _
theorem hidT_get {h : Heap} {H : Hp} {b : Addr} {o : Obj} (e : h.get? b = some o) (n : H b = none) : (hidT h H).get? b = some o :=
  PySem.W.hideAll_get _ e fun hm => by
    have q : (H b).isSome = true := (List.mem_filter.mp hm).2
    rw [n] at q; simp at q
theorem of_hidT {h : Heap} {H : Hp} {b : Addr} {o : Obj} (e : (hidT h H).get? b = some o) : h.get? b = some o ∧ H b = none := by
  have e' : h.get? b = some o := PySem.W.of_hideAll (trk h H) e
  refine ⟨e', ?_⟩
  cases q : H b with
  | none => rfl
  | some x =>
    have hm : b ∈ trk h H := List.mem_filter.mpr ⟨List.mem_range.mpr (Heap.lt_size e'), by simp [q]⟩
    have z : (hidT h H).get? b = none := PySem.W.hideAll_none (trk h H) hm
    rw [z] at e; cases e
def allNews (g h : Heap) (L : Addr) : List (Addr × Obj) := (List.range h.objs.size).filterMap fun a => if a = L ∨ (g.get? a).isSome = true then none else (h.get? a).map fun o => (a, o)
def rest (g h : Heap) (L d : Addr) : List (Addr × Obj) := (allNews g h L).filter fun p => decide (p.1 ≠ d)
end L2
namespace L2
open PySem PySem.Spec PyProof.Rows
structure Mod (K : PySem.W.Frag) (mg : Str → Option Value) (base : Heap) : Prop where
  kin : K.In base
  glob : base.Ns mainGlobals mg
  blt : ∃ mb, base.Ns builtinsNs mb ∧ ∀ x : Str, x ≠ "__name__" → mb x = bootBuiltins x
  nolimit : base.NoLimit
/-- the context: a def's body (or a comprehension's block) running. base: fixed through the whole law; s₀, H₀: the entry; outer: the frames whose slots others may change (a def's callers); stack: all frames that run;
   ex: iterators that were made ahead of the entry and are walked here (a comprehension's); fn: the names whose cells were made at the entry (a def: all; a comprehension's block: its own); calm: not within an except suite; pn: pins that every state bears; xe: what is wanted of an exception that leaves the code -/
structure Cx where
  prog : Program
  w : World
  K : PySem.W.Frag
  mg : Str → Option Value
  base : Heap
  A : Around
  N : List Str
  s₀ : Shared
  H₀ : Hp
  env : Env
  outer : List Env
  stack : List Env
  ex : List Addr
  fn : Str → Bool
  calm : Bool
  pn : List (Addr × Obj)
  xe : Value → Shared → Prop
def frs (l : List Env) : List Addr := l.filterMap (·.frame)
abbrev Cx.fs (X : Cx) : List Addr := frs X.outer
def Vis (sc : Scope) (x : Str) : Prop := sc.names.lookup x = some .local ∨ sc.names.lookup x = some .cell ∨ sc.names.lookup x = some .free
def Loc (sc : Scope) (x : Str) : Prop := sc.names.lookup x = some .local ∨ sc.names.lookup x = some .cell
def Look (env : Env) (h : Heap) (m : Str → Option Value) (x : Str) (u : Value) : Prop :=
  (env.kindOf x = some .local ∧ m x = some u) ∨ ((env.kindOf x = some .cell ∨ env.kindOf x = some .free) ∧ ∃ c, env.cells.lookup x = some c ∧ h.IsCell c (some u))
structure Cx.Ok (X : Cx) : Prop where
  mod : Mod X.K X.mg X.base
  kind : X.env.scope.kind = .function
  glob : X.env.globals = mainGlobals
  blt : X.env.builtins = builtinsNs
  above : X.s₀.heap.objs.size ≤ X.env.locals
  inj : ∀ x y c, X.env.cells.lookup x = some c → X.env.cells.lookup y = some c → x = y
  has : ∀ x, (X.env.kindOf x = some .cell ∨ X.env.kindOf x = some .free) → ∃ c, X.env.cells.lookup x = some c
  cab : ∀ x c, X.fn x = true → X.env.cells.lookup x = some c → X.s₀.heap.objs.size ≤ c
  hd : X.calm = true → X.A.handled = none
  frames : X.A.frames = some X.stack
  stk : X.stack = X.outer ∨ (X.stack = X.env :: X.outer ∧ X.env.frame = some X.env.locals)
  exf : ∀ b ∈ X.ex, b ≠ X.env.locals ∧ ∀ x c, X.env.cells.lookup x = some c → c ≠ b
  bs : ∀ b o, X.base.get? b = some o → X.s₀.heap.get? b = some o ∧ X.H₀ b = none
  bsz : X.base.objs.size ≤ X.s₀.heap.objs.size
  noex : ∀ b o, X.base.get? b = some o → b ∉ X.ex
  exfs : ∀ b ∈ X.ex, b ∉ X.fs
  funs : X.s₀.heap.FunFrames X.base X.outer
  frf : ∀ b ∈ X.fs, X.H₀ b = none
structure Inv (X : Cx) (pins : List (Addr × Obj)) (σ : List (Option V)) (H : Hp) (s : Shared) : Prop where
  ok : X.Ok
  os : s.os = X.s₀.os
  bare : AllBare s.gens
  base : Un X.fs X.ex X.H₀ H X.s₀.heap s.heap
  loc : ∃ m, s.heap.Ns X.env.locals m ∧ ∀ (i : Nat) (x : Str) (v : V), X.N[i]? = some x → σ[i]? = some (some v) → Vis X.env.scope x → ∃ u, RelV v u ∧ Look X.env s.heap m x u
  cell : ∀ x c, X.env.cells.lookup x = some c → ∃ v, s.heap.IsCell c v
  free : H X.env.locals = none
  freeC : ∀ x c, X.env.cells.lookup x = some c → H c = none
  pin : ∀ p ∈ X.pn ++ pins, s.heap.get? p.1 = some p.2 ∧ H p.1 = none ∧ p.1 ≠ X.env.locals ∧ p.1 ∉ X.fs ∧ ∀ v, p.2.data ≠ .cell v
  hok : HOk X.prog X.w H s.heap
  len : σ.length = X.N.length
section
variable {X : Cx} {pins : List (Addr × Obj)} {σ : List (Option V)} {H H' : Hp} {s : Shared} {h' : Heap}
theorem Cx.Ok.nofr (ok : X.Ok) {b : Addr} {o : Obj} (e : X.base.get? b = some o) : b ∉ X.fs := fun hb => by
  have := (ok.funs.mem hb).1
  rw [e] at this; cases this
theorem Inv.bs (I : Inv X pins σ H s) : ∀ b o, X.base.get? b = some o → s.heap.get? b = some o ∧ H b = none := fun b o e =>
  ⟨I.base.keep b o (I.ok.bs b o e).1 (I.ok.bs b o e).2 (I.ok.nofr e) (I.ok.noex b o e), I.base.free b o (I.ok.bs b o e).1 (I.ok.bs b o e).2 (I.ok.noex b o e)⟩
theorem Inv.bk (I : Inv X pins σ H s) : ∀ b o, X.base.get? b = some o → s.heap.get? b = some o := fun b o e => (I.bs b o e).1
theorem Inv.mod (I : Inv X pins σ H s) : Mod X.K X.mg X.base := I.ok.mod
theorem Inv.kIn (I : Inv X pins σ H s) : X.K.In s.heap := I.ok.mod.kin.keeps I.bk
theorem Inv.lt (I : Inv X pins σ H s) : X.env.locals < s.heap.objs.size := let ⟨_, hn, _⟩ := I.loc; hn.lt
theorem Inv.sz (I : Inv X pins σ H s) : X.s₀.heap.objs.size ≤ s.heap.objs.size := Nat.le_trans I.ok.above (Nat.le_of_lt I.lt)
theorem Inv.nofs (I : Inv X pins σ H s) {a : Addr} (h : s.heap.objs.size ≤ a) : a ∉ X.fs := fun hb => by
  obtain ⟨_, o, ho, _⟩ := I.ok.funs.mem hb
  exact absurd (Nat.lt_of_lt_of_le (Heap.lt_size ho) (Nat.le_trans I.sz h)) (Nat.lt_irrefl _)
theorem Inv.cne (I : Inv X pins σ H s) : ∀ x c, X.env.cells.lookup x = some c → c ≠ X.env.locals := fun x c e z => by
  obtain ⟨v, o, ho, hd⟩ := I.cell x c e
  obtain ⟨m, ⟨o', es, ep, ho', hd', _⟩, _⟩ := I.loc
  rw [z, ho'] at ho; cases ho; rw [hd'] at hd; cases hd
theorem Inv.funs (I : Inv X pins σ H s) : s.heap.FunFrames X.base X.outer := by
  have all : ∀ (l : List Env), (∀ b ∈ frs l, b ∈ X.fs) → X.s₀.heap.FunFrames X.base l → s.heap.FunFrames X.base l := by
    intro l
    induction l with
    | nil => intro _ _; trivial
    | cons env r ih =>
      intro hs hl
      obtain ⟨hk, ⟨L, o, hf, hn, ho, hd⟩, hr⟩ := hl
      have hL : L ∈ X.fs := hs L (by unfold frs; rw [List.filterMap_cons, hf]; exact List.mem_cons_self)
      obtain ⟨sl, e⟩ := I.base.slot L o ho (I.ok.frf L hL) hL fun z => I.ok.exfs L z hL
      exact ⟨hk, ⟨L, _, hf, hn, e, hd⟩, ih (fun b hb => hs b (by unfold frs; rw [List.filterMap_cons, hf]; exact List.mem_cons_of_mem _ hb)) hr⟩
  exact all X.outer (fun _ hb => hb) I.ok.funs
theorem Inv.stack (I : Inv X pins σ H s) : s.heap.FunFrames X.base X.stack := by
  rcases I.ok.stk with e | ⟨e, hf⟩
  · rw [e]; exact I.funs
  · rw [e]
    obtain ⟨m, hn, _⟩ := I.loc
    refine .cons (by rw [I.ok.kind]; decide) hf hn ?_ I.funs
    exact Heap.get?_none_of_le (Nat.le_trans I.ok.bsz I.ok.above)
theorem Inv.stkSub (I : Inv X pins σ H s) : ∀ b ∈ frs X.stack, b ∈ X.env.locals :: X.fs := fun b hb => by
  rcases I.ok.stk with e | ⟨e, hf⟩
  · rw [e] at hb; exact List.mem_cons_of_mem _ hb
  · rw [e] at hb
    unfold frs at hb
    rw [List.filterMap_cons, hf] at hb
    exact hb
theorem Inv.stkFree (I : Inv X pins σ H s) : ∀ b ∈ frs X.stack, H b = none := fun b hb => by
  rcases List.mem_cons.mp (I.stkSub b hb) with e | hb
  · rw [e]; exact I.free
  · obtain ⟨_, o, ho, _⟩ := I.ok.funs.mem hb
    exact I.base.free b o ho (I.ok.frf b hb) fun z => I.ok.exfs b z hb
theorem Inv.step {g' : Array GenState} {t' : Nat} {d' : Drawn} {ch : List Addr} (I : Inv X pins σ H s)
    (hch : ∀ b ∈ ch, (b ∈ X.ex ∨ X.s₀.heap.objs.size ≤ b) ∧ b ≠ X.env.locals ∧ (∀ x c, X.env.cells.lookup x = some c → c ≠ b) ∧ ∀ p ∈ X.pn ++ pins, p.1 ≠ b)
    (keep : ∀ b o, b ≠ X.env.locals → b ∉ X.fs → b ∉ ch → s.heap.get? b = some o → H b = none → h'.get? b = some o)
    (slot : ∀ b o, b ≠ X.env.locals → b ∈ X.fs → b ∉ ch → s.heap.get? b = some o → H b = none → ∃ sl, h'.get? b = some { o with slots := sl }) (free : ∀ b o, b ∉ ch → s.heap.get? b = some o → H b = none → H' b = none)
    (there : ∀ b o, b ∉ ch → s.heap.get? b = some o → ∃ o', h'.get? b = some o')
    (tups : ∀ b xs, H b = some (.tup xs) → H' b = some (.tup xs)) (frzs : ∀ b o u, H b = some (.frz o u) → H' b = some (.frz o u)) (tbls : ∀ b ps, H b = some (.tbl ps) → ∃ more, H' b = some (.tbl (ps ++ more)))
    (ns : ∀ m, s.heap.Ns X.env.locals m → h'.Ns X.env.locals m) (hok : HOk X.prog X.w H' h') (hg : AllBare g') :
    Inv X pins σ H' { s with heap := h', gens := g', drawn := d', toks := t' } := by
  have neL : ∀ b o, X.s₀.heap.get? b = some o → b ≠ X.env.locals := fun b o e => Nat.ne_of_lt (Nat.lt_of_lt_of_le (Heap.lt_size e) I.ok.above)
  have neC : ∀ b o, X.s₀.heap.get? b = some o → b ∉ X.ex → b ∉ ch := fun b o e hx hb => by
    rcases (hch b hb).1 with z | z
    · exact hx z
    · exact absurd (Nat.lt_of_lt_of_le (Heap.lt_size e) z) (Nat.lt_irrefl _)
  have cellK : ∀ x c, X.env.cells.lookup x = some c → ∀ v, s.heap.IsCell c v → h'.IsCell c v := fun x c e v ⟨o, ho, hd⟩ => by
    have nch : c ∉ ch := fun z => (hch c z).2.2.1 x c e rfl
    by_cases hc : c ∈ X.fs
    · obtain ⟨sl, q⟩ := slot c o (I.cne x c e) hc nch ho (I.freeC x c e)
      exact ⟨_, q, hd⟩
    · exact ⟨o, keep c o (I.cne x c e) hc nch ho (I.freeC x c e), hd⟩
  refine ⟨I.ok, I.os, hg, ⟨fun b o e n hb hx => ?_, fun b o e n hb hx => ?_, fun b o e n hx => ?_, fun b o e hx => ?_, fun b xs e => tups b xs (I.base.tups b xs e), fun b o xs e => frzs b o xs (I.base.frzs b o xs e), fun b ps e => ?_⟩, ?_, fun x c e => ?_, ?_, fun x c e => ?_, fun p hp => ?_, hok, I.len⟩
  · exact keep b o (neL b o e) hb (neC b o e hx) (I.base.keep b o e n hb hx) (I.base.free b o e n hx)
  · obtain ⟨sl, e1⟩ := I.base.slot b o e n hb hx
    obtain ⟨sl', e2⟩ := slot b _ (neL b o e) hb (neC b o e hx) e1 (I.base.free b o e n hx)
    exact ⟨sl', e2⟩
  · obtain ⟨o', e1⟩ := I.base.there b o e hx
    exact free b o' (neC b o e hx) e1 (I.base.free b o e n hx)
  · obtain ⟨o', e1⟩ := I.base.there b o e hx
    exact there b o' (neC b o e hx) e1
  · obtain ⟨m1, e1⟩ := I.base.tbls b ps e
    obtain ⟨m2, e2⟩ := tbls b _ e1
    exact ⟨m1 ++ m2, by rw [e2, Array.append_assoc]⟩
  · obtain ⟨m, hn, hl⟩ := I.loc
    refine ⟨m, ns m hn, fun i x v e1 e2 e3 => ?_⟩
    obtain ⟨u, r, l⟩ := hl i x v e1 e2 e3
    refine ⟨u, r, ?_⟩
    rcases l with l | ⟨k, c, e, z⟩
    · exact .inl l
    · exact .inr ⟨k, c, e, cellK x c e _ z⟩
  · obtain ⟨v, z⟩ := I.cell x c e
    exact ⟨v, cellK x c e v z⟩
  · obtain ⟨m, ⟨o, _, _, ho, _⟩, _⟩ := I.loc
    exact free _ o (fun z => (hch _ z).2.1 rfl) ho I.free
  · obtain ⟨v, o, ho, hd⟩ := I.cell x c e
    exact free c o (fun z => (hch c z).2.2.1 x c e rfl) ho (I.freeC x c e)
  · obtain ⟨e, n, ne, nf, d⟩ := I.pin p hp
    have nch : p.1 ∉ ch := fun z => (hch p.1 z).2.2.2 p hp rfl
    exact ⟨keep p.1 p.2 ne nf nch e n, free p.1 p.2 nch e n, ne, nf, d⟩
theorem Inv.un {t' : Nat} (I : Inv X pins σ H s) (u : Un X.fs [] H H' s.heap h') (hok : HOk X.prog X.w H' h') : Inv X pins σ H' { s with heap := h', toks := t' } := by
  obtain ⟨m, ⟨o, es, ep, ho, r⟩, _⟩ := id I.loc
  obtain ⟨sl, hL⟩ := u.any ho I.free (by simp)
  exact I.step (g' := s.gens) (d' := s.drawn) (ch := []) (fun _ z => nomatch z) (fun b o _ hb _ e n => u.keep b o e n hb (by simp)) (fun b o _ hb _ e n => u.slot b o e n hb (by simp)) (fun b o _ e n => u.free b o e n (by simp)) (fun b o _ e => u.there b o e (by simp)) u.tups u.frzs u.tbls (fun m' hm => by
    obtain ⟨o', es', ep', ho', r'⟩ := hm
    rw [ho] at ho'; cases ho'
    exact ⟨_, es', ep', hL, r'⟩) hok I.bare
theorem Inv.call {g' : Array GenState} {t' : Nat} {d' : Drawn} {ch : List Addr} (I : Inv X pins σ H s) (u : Un (frs X.stack) ch H H' s.heap h') (hok : HOk X.prog X.w H' h') (hg : AllBare g')
    (hch : ∀ b ∈ ch, (b ∈ X.ex ∨ X.s₀.heap.objs.size ≤ b) ∧ b ≠ X.env.locals ∧ (∀ x c, X.env.cells.lookup x = some c → c ≠ b) ∧ ∀ p ∈ X.pn ++ pins, p.1 ≠ b) :
    Inv X pins σ H' { s with heap := h', gens := g', drawn := d', toks := t' } := by
  obtain ⟨m, ⟨o, es, ep, ho, r⟩, _⟩ := id I.loc
  obtain ⟨sl, hL⟩ := u.any ho I.free fun z => (hch _ z).2.1 rfl
  exact I.step (ch := ch) hch (fun b o hL hb hc e n => u.keep b o e n (fun z => (List.mem_cons.mp (I.stkSub b z)).elim hL hb) hc) (fun b o _ _ hc e n => u.any e n hc) (fun b o hc e n => u.free b o e n hc) (fun b o hc e => u.there b o e hc) u.tups u.frzs u.tbls (fun m' hm => by
    obtain ⟨o', es', ep', ho', r'⟩ := hm
    rw [ho] at ho'; cases ho'
    exact ⟨_, es', ep', hL, r'⟩) hok hg
theorem Inv.turned {t' : Nat} {it : Addr} (I : Inv X pins σ H s) (k : ∀ b o, b ≠ it → s.heap.get? b = some o → h'.get? b = some o) (hn : H it = none) (hL : it ≠ X.env.locals)
    (h1 : it ∈ X.ex ∨ X.s₀.heap.objs.size ≤ it) (h2 : ∀ x c, X.env.cells.lookup x = some c → c ≠ it) (h3 : ∀ p ∈ X.pn ++ pins, p.1 ≠ it) : Inv X pins σ H { s with heap := h', toks := t' } := by
  have nit : ∀ b u, H b = some u → b ≠ it := fun b u e z => by rw [z, hn] at e; cases e
  refine I.step (g' := s.gens) (d' := s.drawn) (ch := [it]) (fun b hb => ?_) (fun b o _ _ hc e _ => k b o (fun z => hc (by simp [z])) e) (fun b o _ _ hc e _ => ⟨o.slots, k b o (fun z => hc (by simp [z])) e⟩) (fun _ _ _ _ n => n)
    (fun b o hc e => ⟨o, k b o (fun z => hc (by simp [z])) e⟩) (fun _ _ e => e) (fun _ _ _ e => e) (fun b ps e => ⟨#[], by rw [e]; simp⟩) (fun m hm => ?_) (fun b u e => ?_) I.bare
  · have e : b = it := by simpa using hb
    subst e
    exact ⟨h1, hL, h2, h3⟩
  · obtain ⟨o, es, ep, ho, r⟩ := hm
    exact ⟨o, es, ep, k _ o (Ne.symm hL) ho, r⟩
  · refine (I.hok b u e).stay (fun c v hc q => k c v ?_ q) (fun _ q => q) (fun _ _ q => q) fun _ _ _ q => q
    rcases hc with z | z
    · rw [z]; exact nit b u e
    · exact nit c _ z
theorem Inv.tok (I : Inv X pins σ H s) (t : Nat) : Inv X pins σ H { s with toks := t } := I.un (h' := s.heap) (t' := t) Un.refl I.hok
theorem Inv.kept {t' : Nat} (I : Inv X pins σ H s) (k : ∀ b u, s.heap.get? b = some u → h'.get? b = some u) : Inv X pins σ H { s with heap := h', toks := t' } := I.un (Un.kept k) (I.hok.kept k)
theorem Inv.laid {a : Addr} {o : HO} {t' : Nat} (I : Inv X pins σ H s) (k : ∀ b u, s.heap.get? b = some u → h'.get? b = some u) (hp : s.heap.objs.size ≤ a) (new : ObjOk X.prog X.w (upd H a o) h' a o) :
    Inv X pins σ (upd H a o) { s with heap := h', toks := t' } := I.un (Un.laid k hp (I.hok.fresh hp)) (I.hok.laid k hp new)
theorem Inv.write {x e : Addr} {o : HO} {t' : Nat} (I : Inv X pins σ H s) (mu : Mut (H x)) (he : e = x ∨ H e = some (.own x)) (k : ∀ b u, b ≠ e → s.heap.get? b = some u → h'.get? b = some u) (heo : ∃ u, h'.get? e = some u)
    (new : ObjOk X.prog X.w (upd H x o) h' x o) : Inv X pins σ (upd H x o) { s with heap := h', toks := t' } := I.un (Un.write mu he k heo) (I.hok.write mu he k heo new)
theorem Inv.pins_of {pins' : List (Addr × Obj)} (I : Inv X pins σ H s) (h : ∀ p ∈ pins', s.heap.get? p.1 = some p.2 ∧ H p.1 = none ∧ p.1 ≠ X.env.locals ∧ p.1 ∉ X.fs ∧ ∀ v, p.2.data ≠ .cell v) : Inv X pins' σ H s :=
  ⟨I.ok, I.os, I.bare, I.base, I.loc, I.cell, I.free, I.freeC, fun p hp => (List.mem_append.mp hp).elim (fun z => I.pin p (List.mem_append_left _ z)) (h p), I.hok, I.len⟩
theorem nodup_ix {N : List Str} (hN : N.Nodup) {i j : Nat} {x : Str} (a : N[i]? = some x) (b : N[j]? = some x) : i = j := by
  obtain ⟨h1, e1⟩ := List.getElem?_eq_some_iff.mp a
  obtain ⟨h2, e2⟩ := List.getElem?_eq_some_iff.mp b
  exact (List.getElem_inj hN).mp (e1.trans e2.symm)
theorem store_ok2 {M : Model} {A : Around} {E : Value → Shared → Prop} {i : Nat} {x : Str} {v : V} {u : Value} {Q : Unit → Shared → Prop} (I : Inv X pins σ H s) (hN : X.N.Nodup) (hi : X.N[i]? = some x) (hx : Loc X.env.scope x) (r : RelV v u)
    (h : ∀ s', Inv X pins (σ.set i (some v)) H s' → (∃ a, Heap.SameBut a s.heap s'.heap ∧ (a = X.env.locals ∨ X.env.cells.lookup x = some a)) → Q () s') (hf : X.fn x = true ∨ X.env.scope.names.lookup x = some .local := by first | exact .inl rfl | exact .inr rfl | assumption) : wpAny M A (storeName X.env x u) Q E s := by
  obtain ⟨m, hn, hl⟩ := id I.loc
  have hcls : (X.env.scope.kind == .class || (X.env.scope.kind == .module && X.env.locals != X.env.globals)) = false := by rw [I.ok.kind]; rfl
  have hiσ : i < σ.length := by rw [I.len]; exact (List.getElem?_eq_some_iff.mp hi).1
  have cne := I.cne
  have tracked : ∀ {a : Addr} {h' : Heap}, (∃ o, s.heap.get? a = some o ∧ H a = none) → Heap.SameBut a s.heap h' → HOk X.prog X.w H h' := fun {a h'} ha hs b ob e => by
    obtain ⟨_, _, hfree⟩ := ha
    refine (I.hok b ob e).stay (fun c w' hc q => (hs.2 c ?_).trans q) (fun _ q => q) (fun _ _ q => q) fun _ _ _ q => q
    rintro rfl
    rcases hc with rfl | hc
    · rw [hfree] at e; cases e
    · rw [hfree] at hc; cases hc
  rcases hx with hk | hk
  · refine wpAny_storeName_local hk hn (fun h' hn' hs => ?_) hcls
    obtain ⟨oL, _, _, hoL, _⟩ := id hn
    refine h _ ⟨I.ok, I.os, I.bare, ⟨fun b o e n hb hx => ?_, fun b o e n hb hx => ?_, I.base.free, fun b o e hx => ?_, I.base.tups, I.base.frzs, I.base.tbls⟩, ⟨_, hn', fun j y v' e1 e2 e3 => ?_⟩, fun y c e => ?_, I.free, I.freeC, fun p hp => ?_, tracked ⟨oL, hoL, I.free⟩ hs, by simpa using I.len⟩ ⟨_, hs, .inl rfl⟩
    · exact (hs.2 b (Nat.ne_of_lt (Nat.lt_of_lt_of_le (Heap.lt_size e) I.ok.above))).trans (I.base.keep b o e n hb hx)
    · obtain ⟨sl, e1⟩ := I.base.slot b o e n hb hx
      exact ⟨sl, (hs.2 b (Nat.ne_of_lt (Nat.lt_of_lt_of_le (Heap.lt_size e) I.ok.above))).trans e1⟩
    · obtain ⟨o', e1⟩ := I.base.there b o e hx
      exact ⟨o', (hs.2 b (Nat.ne_of_lt (Nat.lt_of_lt_of_le (Heap.lt_size e) I.ok.above))).trans e1⟩
    · by_cases hj : j = i
      · subst hj
        rw [hi] at e1; cases e1
        rw [List.getElem?_set_self hiσ] at e2
        cases e2
        exact ⟨u, r, .inl ⟨hk, by simp⟩⟩
      · rw [List.getElem?_set_ne (Ne.symm hj)] at e2
        obtain ⟨u', r', q⟩ := hl j y v' e1 e2 e3
        refine ⟨u', r', ?_⟩
        rcases q with ⟨k, e⟩ | ⟨k, c, e, z⟩
        · refine .inl ⟨k, ?_⟩
          have : y ≠ x := fun e => hj (nodup_ix hN e1 (e ▸ hi))
          simp [this, e]
        · exact .inr ⟨k, c, e, z.sameBut hs (cne y c e)⟩
    · obtain ⟨w', z⟩ := I.cell y c e
      exact ⟨w', z.sameBut hs (cne y c e)⟩
    · obtain ⟨e, n, ne, nf, d⟩ := I.pin p hp
      exact ⟨(hs.2 p.1 ne).trans e, n, ne, nf, d⟩
  · have hfn : X.fn x = true := by
      rcases hf with z | z
      · exact z
      · rw [z] at hk; cases hk
    obtain ⟨c, hc⟩ := I.ok.has x (.inl hk)
    obtain ⟨w', z⟩ := I.cell x c hc
    refine wpAny_storeName_cell I.ok.kind hk hc z (fun h' hc' hs => ?_)
    obtain ⟨oc, hoc, hocd⟩ := id z
    refine h { s with heap := h' } ⟨I.ok, I.os, I.bare, ⟨fun b o e n hb hx => ?_, fun b o e n hb hx => ?_, I.base.free, fun b o e hx => ?_, I.base.tups, I.base.frzs, I.base.tbls⟩, ⟨m, hn.sameBut hs (Ne.symm (cne x c hc)), fun j y v' e1 e2 e3 => ?_⟩, fun y c' e => ?_, I.free, I.freeC, fun p hp => ?_, tracked ⟨oc, hoc, I.freeC x c hc⟩ hs, by simpa using I.len⟩ ⟨c, hs, .inr hc⟩
    · exact (hs.2 b (Nat.ne_of_lt (Nat.lt_of_lt_of_le (Heap.lt_size e) (I.ok.cab x c hfn hc)))).trans (I.base.keep b o e n hb hx)
    · obtain ⟨sl, e1⟩ := I.base.slot b o e n hb hx
      exact ⟨sl, (hs.2 b (Nat.ne_of_lt (Nat.lt_of_lt_of_le (Heap.lt_size e) (I.ok.cab x c hfn hc)))).trans e1⟩
    · obtain ⟨o', e1⟩ := I.base.there b o e hx
      exact ⟨o', (hs.2 b (Nat.ne_of_lt (Nat.lt_of_lt_of_le (Heap.lt_size e) (I.ok.cab x c hfn hc)))).trans e1⟩
    · by_cases hj : j = i
      · subst hj
        rw [hi] at e1; cases e1
        rw [List.getElem?_set_self hiσ] at e2
        cases e2
        exact ⟨u, r, .inr ⟨.inl hk, c, hc, hc'⟩⟩
      · rw [List.getElem?_set_ne (Ne.symm hj)] at e2
        obtain ⟨u', r', q⟩ := hl j y v' e1 e2 e3
        refine ⟨u', r', ?_⟩
        rcases q with q | ⟨k, c', e, z'⟩
        · exact .inl q
        · refine .inr ⟨k, c', e, z'.sameBut hs ?_⟩
          rintro rfl
          exact hj (nodup_ix hN e1 (I.ok.inj _ _ _ e hc ▸ hi))
    · by_cases hcc : c' = c
      · subst hcc; exact ⟨_, hc'⟩
      · obtain ⟨w2, z2⟩ := I.cell y c' e
        exact ⟨w2, z2.sameBut hs hcc⟩
    · obtain ⟨e, n, ne, nf, d⟩ := I.pin p hp
      refine ⟨(hs.2 p.1 ?_).trans e, n, ne, nf, d⟩
      intro q
      rw [q, hoc] at e
      have q' : oc = p.2 := Option.some.inj e
      exact d w' (by rw [← q']; exact hocd)
theorem store_ok {M : Model} {A : Around} {E : Value → Shared → Prop} {i : Nat} {x : Str} {v : V} {u : Value} {Q : Unit → Shared → Prop} (I : Inv X pins σ H s) (hN : X.N.Nodup) (hi : X.N[i]? = some x) (hx : Loc X.env.scope x) (r : RelV v u)
    (h : ∀ s', Inv X pins (σ.set i (some v)) H s' → Q () s') (hf : X.fn x = true ∨ X.env.scope.names.lookup x = some .local := by first | exact .inl rfl | exact .inr rfl | assumption) : wpAny M A (storeName X.env x u) Q E s :=
  store_ok2 I hN hi hx r (fun s' I' _ => h s' I') hf
theorem Inv.call' {s' : Shared} {ch : List Addr} (I : Inv X pins σ H s) (ho : s'.os = s.os) (u : Un (frs X.stack) ch H H' s.heap s'.heap) (hok : HOk X.prog X.w H' s'.heap) (hg : AllBare s'.gens)
    (hch : ∀ b ∈ ch, (b ∈ X.ex ∨ X.s₀.heap.objs.size ≤ b) ∧ b ≠ X.env.locals ∧ (∀ x c, X.env.cells.lookup x = some c → c ≠ b) ∧ ∀ p ∈ X.pn ++ pins, p.1 ≠ b) : Inv X pins σ H' s' := by
  obtain ⟨h', g', d', t', o'⟩ := s'
  have e : o' = s.os := ho
  subst e
  exact I.call (g' := g') (t' := t') (d' := d') u hok hg hch
end
abbrev XK := Value → Option Addr → Hp → Prop
abbrev St := List (Option V)
abbrev VK := V → Hp → Prop
abbrev TE := St → Hp → VK → Prop
abbrev TT := St → Hp → (Bool → Hp → Prop) → Prop
abbrev TA := St → Hp → (List V → Hp → Prop) → Prop
structure Ends where
  nx : St → Hp → Prop
  rt : VK
  bk : St → Hp → Prop := fun _ _ => False
  ct : St → Hp → Prop := fun _ _ => False
abbrev TS := Ends → St → Hp → Prop
def EP (X : Cx) (pins : List (Addr × Obj)) (σ : St) (Q : VK) (u : Value) (s' : Shared) : Prop := ∃ v H', Inv X pins σ H' s' ∧ RelV v u ∧ Q v H'
def TP (X : Cx) (pins : List (Addr × Obj)) (σ : St) (Q : Bool → Hp → Prop) (b : Bool) (s' : Shared) : Prop := ∃ H', Inv X pins σ H' s' ∧ Q b H'
def AP (X : Cx) (pins : List (Addr × Obj)) (σ : St) (Q : List V → Hp → Prop) (us : List Value) (s' : Shared) : Prop := ∃ vs H', Inv X pins σ H' s' ∧ Vals vs us ∧ Q vs H'
def SP (X : Cx) (pins : List (Addr × Obj)) (D : Ends) (f : Flow) (s' : Shared) : Prop :=
  match f with
  | .next => ∃ σ' H', Inv X pins σ' H' s' ∧ D.nx σ' H'
  | .brk => ∃ σ' H', Inv X pins σ' H' s' ∧ D.bk σ' H'
  | .cont => ∃ σ' H', Inv X pins σ' H' s' ∧ D.ct σ' H'
  | .ret u => ∃ v σ' H', Inv X pins σ' H' s' ∧ RelV v u ∧ D.rt v H'
def PE (X : Cx) (e : Expr) (t : TE) : Prop :=
  ∀ (pins : List (Addr × Obj)) (s : Shared) (σ : St) (H : Hp) (Q : VK), Inv X pins σ H s → t σ H Q → wpAny (model X.prog X.w) X.A (eval e X.env) (EP X pins σ Q) X.xe s
def PT (X : Cx) (e : Expr) (t : TT) : Prop :=
  ∀ (pins : List (Addr × Obj)) (s : Shared) (σ : St) (H : Hp) (Q : Bool → Hp → Prop), Inv X pins σ H s → t σ H Q → wpAny (model X.prog X.w) X.A (isTrue e X.env (eval e X.env)) (TP X pins σ Q) X.xe s
def PW (X : Cx) (e : Expr) (t : TT) : Prop :=
  ∀ (whole : Sem Value) (pins : List (Addr × Obj)) (s : Shared) (σ : St) (H : Hp) (Q : Bool → Hp → Prop), Inv X pins σ H s → t σ H Q → wpAny (model X.prog X.w) X.A (isTrue e X.env whole) (TP X pins σ Q) X.xe s
theorem PW.pt {X : Cx} {e : Expr} {t : TT} (h : PW X e t) : PT X e t := h _
def PA (X : Cx) (es : List Expr) (t : TA) : Prop :=
  ∀ (pos : Pos) (pins : List (Addr × Obj)) (s : Shared) (σ : St) (H : Hp) (Q : List V → Hp → Prop), Inv X pins σ H s → t σ H Q → wpAny (model X.prog X.w) X.A (spliced (backTo pos (starEach es X.env))) (AP X pins σ Q) X.xe s
def PS (X : Cx) (st : Stmt) (t : TS) : Prop :=
  ∀ (pins : List (Addr × Obj)) (s : Shared) (σ : St) (H : Hp) (D : Ends), Inv X pins σ H s → t D σ H → wpAny (model X.prog X.w) X.A (exec st X.env) (SP X pins D) X.xe s
def PSs (X : Cx) (st : List Stmt) (t : TS) : Prop :=
  ∀ (pins : List (Addr × Obj)) (s : Shared) (σ : St) (H : Hp) (D : Ends), Inv X pins σ H s → t D σ H → wpAny (model X.prog X.w) X.A (execs st X.env) (SP X pins D) X.xe s
theorem thn {α : Type} {t : Sem α} {Q Q' : α → Shared → Prop} {M : Model} {A : Around} {E : Value → Shared → Prop} {s : Shared} (h : wpAny M A t Q E s) (hQ : ∀ a s, Q a s → Q' a s) : wpAny M A t Q' E s := wpAny_mono h hQ fun _ _ x => x
end L2
namespace L2
open PySem PySem.Spec PyProof.Rows
section
variable {X : Cx}
def tVar (i : Nat) : TE := fun σ H Q => ∃ v, σ[i]? = some (some v) ∧ Q v H
def tC (v : V) : TE := fun _ H Q => Q v H
theorem pe_var {i : Nat} {x : Str} {pos : Pos} (hN : X.N[i]? = some x) (hv : Vis X.env.scope x) (hd : (x == ("__debug__" : Str)) = false := by decide) (hcd : (x == ("__classdict__" : Str)) = false := by decide) : PE X (.Name x pos) (tVar i) := by
  intro pins s σ H Q I h
  obtain ⟨v, e, h⟩ := h
  obtain ⟨m, hn, hl⟩ := I.loc
  obtain ⟨u, r, l⟩ := hl i x v hN e hv
  have fin : EP X pins σ Q u s := ⟨v, H, I, r, h⟩
  rcases l with ⟨hk, hm⟩ | ⟨hk, c, hc, hcell⟩
  · exact wpAny_Name (wpAny_loadName_local I.ok.kind hk hn hm fin) hd
  · rcases hk with hk | hk
    · exact wpAny_Name (wpAny_loadName_cell I.ok.kind hk hc hcell fin) hd
    · exact wpAny_Name (wpAny_loadName_free I.ok.kind hk hc hcell fin hcd) hd
theorem pe_int {i j pos} : PE X (.Constant (.int i) j pos) (tC (.int i)) := fun _ _ _ H _ I h => wpAny_Constant_int ⟨.int i, H, I.tok _, ⟨_, rfl⟩, h⟩
theorem pe_bl {b j pos} : PE X (.Constant (.bool b) j pos) (tC (.bl b)) := fun _ _ _ H _ I h => Constant_bool ⟨.bl b, H, I, rfl, h⟩
theorem pe_non {j pos} : PE X (.Constant .none j pos) (tC .non) := fun _ _ _ H _ I h => Constant_none ⟨.non, H, I, rfl, h⟩
theorem pe_str {x j pos} : PE X (.Constant (.str x) j pos) (tC (.str x)) := fun _ _ _ H _ I h => Calls.Constant_str ⟨.str x, H, I.tok _, ⟨_, rfl⟩, h⟩
def Gl (X : Cx) (x : Str) : Prop := X.env.kindOf x = some .globalImplicit
theorem ld_glob {E : Value → Shared → Prop} {pins : List (Addr × Obj)} {s : Shared} {σ : St} {H : Hp} {x : Str} {u : Value} {pos : Pos} {Q : Value → Shared → Prop} (I : Inv X pins σ H s) (hg : Gl X x) (hm : X.mg x = some u) (h : Q u s)
    (hd : (x == ("__debug__" : Str)) = false := by decide) : wpAny (model X.prog X.w) X.A (eval (.Name x pos) X.env) Q E s :=
  Calls.Name_function_global I.ok.kind hg (Calls.loadGlobal_global (by rw [I.ok.glob]; exact I.mod.glob.keeps I.bk) hm h) hd
theorem ld_blt {E : Value → Shared → Prop} {pins : List (Addr × Obj)} {s : Shared} {σ : St} {H : Hp} {x : Str} {u : Value} {pos : Pos} {Q : Value → Shared → Prop} (I : Inv X pins σ H s) (hg : Gl X x) (hm : X.mg x = none) (hv : bootBuiltins x = some u) (h : Q u s)
    (hn : x ≠ "__name__" := by decide) (hd : (x == ("__debug__" : Str)) = false := by decide) : wpAny (model X.prog X.w) X.A (eval (.Name x pos) X.env) Q E s := by
  obtain ⟨mb, h1, h2⟩ := I.mod.blt
  exact Calls.Name_function_global I.ok.kind hg (Calls.loadGlobal_builtin (by rw [I.ok.glob]; exact I.mod.glob.keeps I.bk) hm (by rw [I.ok.blt]; exact h1.keeps I.bk) ((h2 x hn).trans hv) h) hd
theorem pe_glob {x : Str} {v : V} {u : Value} {pos : Pos} (hg : Gl X x) (hm : X.mg x = some u) (r : RelV v u) (hd : (x == ("__debug__" : Str)) = false := by decide) : PE X (.Name x pos) (tC v) :=
  fun _ _ _ H _ I h => ld_glob I hg hm ⟨v, H, I, r, h⟩ hd
theorem pe_bltn {x : Str} {v : V} {u : Value} {pos : Pos} (hg : Gl X x) (hm : X.mg x = none) (hv : bootBuiltins x = some u) (r : RelV v u) (hn : x ≠ "__name__" := by decide) (hd : (x == ("__debug__" : Str)) = false := by decide) : PE X (.Name x pos) (tC v) :=
  fun _ _ _ H _ I h => ld_blt I hg hm hv ⟨v, H, I, r, h⟩ hn hd
def t2I (ta tb : TE) (k : Int → Int → Hp → Prop) : St → Hp → Prop := fun σ H => ta σ H fun x H1 => tb σ H1 fun y H2 => ∃ i j, x = .int i ∧ y = .int j ∧ k i j H2
def tAdd (ta tb : TE) : TE := fun σ H Q => t2I ta tb (fun i j H2 => Q (.int (i + j)) H2) σ H
def tSub (ta tb : TE) : TE := fun σ H Q => t2I ta tb (fun i j H2 => Q (.int (i - j)) H2) σ H
def tMul (ta tb : TE) : TE := fun σ H Q => t2I ta tb (fun i j H2 => (-(2 ^ 64) < i ∧ i < 2 ^ 64) ∧ Q (.int (i * j)) H2) σ H
variable {a b : Expr} {ta tb : TE} {pos : Pos}
def PC (X : Cx) (op : CmpOp) (a b : Expr) (t : TE) : Prop :=
  ∀ (pins : List (Addr × Obj)) (s : Shared) (σ : St) (H : Hp) (Q : VK), Inv X pins σ H s → t σ H Q →
    wpAny (model X.prog X.w) X.A (eval a X.env) (fun v s₁ => wpAny (model X.prog X.w) X.A (eval b X.env) (fun u s₂ => wpAny (model X.prog X.w) X.A (compareOp op v u) (EP X pins σ Q) X.xe s₂) X.xe s₁) X.xe s
def tCmp (p : Int → Int → Bool) (ta tb : TE) : TE := fun σ H Q => t2I ta tb (fun i j H2 => Q (.bl (p i j)) H2) σ H
abbrev tLt : TE → TE → TE := tCmp fun i j => decide (i < j)
abbrev tLe : TE → TE → TE := tCmp fun i j => decide (i ≤ j)
abbrev tGt : TE → TE → TE := tCmp fun i j => decide (j < i)
abbrev tGe : TE → TE → TE := tCmp fun i j => decide (j ≤ i)
abbrev tEqI : TE → TE → TE := tCmp fun i j => decide (i = j)
abbrev tNeI : TE → TE → TE := tCmp fun i j => !decide (i = j)
def tIsN (ta : TE) : TE := fun σ H Q => ta σ H fun x H1 => Q (.bl (decide (x = .non))) H1
def tNotN (ta : TE) : TE := fun σ H Q => ta σ H fun x H1 => Q (.bl (!decide (x = .non))) H1
def tB (t : TE) : TT := fun σ H Q => t σ H fun x H1 => ∃ c, x = .bl c ∧ Q c H1
theorem pt_val {e : Expr} {t : TE} (h : PE X e t) (he : ∀ whole, isTrue e X.env whole = (do let v ← whole; standAt e.pos; holding [v] (truthy v)) := by intro _; rfl) : PT X e (tB t) := by
  intro pins s σ H Q I hw
  refine isTrue_plain (thn (h pins s σ H _ I hw) fun v s1 ⟨x, H1, I1, r1, q1⟩ => ?_) (he _)
  obtain ⟨d, rfl, q⟩ := q1
  cases r1
  exact wpAny_truthy_bool ⟨H1, I1, q⟩
variable {tA tB' : TT} {rest : List Expr}
def tAnd (t u : TT) : TT := fun σ H Q => t σ H fun c H1 => if c = true then u σ H1 Q else Q false H1
def tOr (t u : TT) : TT := fun σ H Q => t σ H fun c H1 => if c = true then Q true H1 else u σ H1 Q
def tNot (t : TT) : TT := fun σ H Q => t σ H fun c H1 => Q (!c) H1
theorem pw_and1 (ha : PT X a tA) : PW X (.BoolOp .And [a] pos) tA := by
  intro wh pins s σ H Q I h
  refine isTrue_and (thn (ha pins s σ H Q I h) fun c s1 e => ?_)
  cases c with
  | true => exact isTrue_and_nil e
  | false => exact e
theorem pw_or1 (ha : PT X a tA) : PW X (.BoolOp .Or [a] pos) tA := by
  intro wh pins s σ H Q I h
  refine isTrue_or (thn (ha pins s σ H Q I h) fun c s1 e => ?_)
  cases c with
  | false => exact isTrue_or_nil e
  | true => exact e
theorem pw_and (ha : PT X a tA) (hb : PW X (.BoolOp .And (b :: rest) pos) tB') : PW X (.BoolOp .And (a :: b :: rest) pos) (tAnd tA tB') := by
  intro wh pins s σ H Q I h
  refine isTrue_and (thn (ha pins s σ H _ I h) fun c s1 ⟨H1, I1, q1⟩ => ?_)
  cases c with
  | true => exact hb wh pins s1 σ H1 Q I1 q1
  | false => exact ⟨H1, I1, q1⟩
theorem pw_or (ha : PT X a tA) (hb : PW X (.BoolOp .Or (b :: rest) pos) tB') : PW X (.BoolOp .Or (a :: b :: rest) pos) (tOr tA tB') := by
  intro wh pins s σ H Q I h
  refine isTrue_or (thn (ha pins s σ H _ I h) fun c s1 ⟨H1, I1, q1⟩ => ?_)
  cases c with
  | true => exact ⟨H1, I1, q1⟩
  | false => exact hb wh pins s1 σ H1 Q I1 q1
theorem pt_not (ha : PT X a tA) : PT X (.UnaryOp .Not a pos) (tNot tA) := by
  intro pins s σ H Q I h
  exact isTrue_not (ha pins s σ H (fun c H1 => Q (!c) H1) I h)
def tAndV (ta tb : TE) : TE := fun σ H Q => ta σ H fun x H1 => ∃ c, x = .bl c ∧ if c = true then tb σ H1 Q else Q (.bl false) H1
def tOrV (ta tb : TE) : TE := fun σ H Q => ta σ H fun x H1 => ∃ c, x = .bl c ∧ if c = true then Q (.bl true) H1 else tb σ H1 Q
def tNotV (ta : TE) : TE := fun σ H Q => ta σ H fun x H1 => ∃ c, x = .bl c ∧ Q (.bl (!c)) H1
theorem pe_one {op} {t : TE} (h : PE X a t) : PE X (.BoolOp op [a] pos) t := fun pins s σ H Q I hw => BoolOp_one (h pins s σ H Q I hw)
theorem pe_and (ha : PE X a ta) (hb : PE X (.BoolOp .And (b :: rest) pos) tb) : PE X (.BoolOp .And (a :: b :: rest) pos) (tAndV ta tb) := by
  intro pins s σ H Q I h
  refine BoolOp_and (thn (ha pins s σ H _ I h) fun v s1 ⟨x, H1, I1, r1, q1⟩ => ?_)
  obtain ⟨c, rfl, q1⟩ := q1
  cases r1
  refine wpAny_truthy_bool ?_
  cases c with
  | true => exact hb pins s1 σ H1 Q I1 q1
  | false => exact ⟨.bl false, H1, I1, rfl, q1⟩
def tIf (t : TT) (ta tb : TE) : TE := fun σ H Q => t σ H fun c H1 => if c = true then ta σ H1 Q else tb σ H1 Q
end
end L2
namespace L2
open PySem PySem.Spec PyProof.Rows
def SqL (K : PySem.W.Frag) (H : Hp) (a : Addr) (xs : List V) : Prop :=
  Rd H a (.lst xs) ∨
    ∃ (o : Obj) (its : Array Value) (n : Nat), K.lookup a = some o ∧ o.cls = .type "list" ∧ o.dict = none ∧ o.data = .seq its n ∧ its.size ≤ sizeLine ∧ Vals xs its.toList
def SqT (K : PySem.W.Frag) (H : Hp) (a : Addr) (xs : List V) : Prop :=
  Rd H a (.tup xs) ∨
    ∃ (o : Obj) (its : Array Value) (n : Nat), K.lookup a = some o ∧ o.cls = .type "tuple" ∧ o.data = .seq its n ∧ its.size ≤ sizeLine ∧ Vals xs its.toList
def absV : Value → Option V
  | .none => some .non
  | .bool b => some (.bl b)
  | .int i _ => some (.int i)
  | .str x _ => some (.str x)
  | .bytes b _ => some (.byt b)
  | .float b _ => some (.flt b)
  | .ref a => some (.ref a)
  | .type n => some (.ty n)
  | _ => none
theorem RelV.abs {x : V} {u : Value} (r : RelV x u) : absV u = some x := by
  cases x with
  | non => cases r; rfl
  | bl _ => cases r; rfl
  | int _ => obtain ⟨t, rfl⟩ := r; rfl
  | str _ => obtain ⟨t, rfl⟩ := r; rfl
  | byt _ => obtain ⟨t, rfl⟩ := r; rfl
  | flt _ => obtain ⟨t, rfl⟩ := r; rfl
  | ref _ => cases r; rfl
  | ty _ => cases r; rfl
theorem RelV.inj {x y : V} {u : Value} (r : RelV x u) (q : RelV y u) : x = y := Option.some.inj (r.abs.symm.trans q.abs)
theorem Vals.inj : ∀ {xs ys : List V} {us : List Value}, Vals xs us → Vals ys us → xs = ys
  | _, _, _, .nil, .nil => rfl
  | _, _, _, .cons r t, .cons r' t' => by rw [r.inj r', Vals.inj t t']
section
variable {X : Cx} {pins : List (Addr × Obj)} {σ : St} {H : Hp} {s : Shared} {a : Addr} {xs ys : List V}
theorem SqL.of {K : PySem.W.Frag} (h : H a = some (.lst xs)) : SqL K H a xs := .inl (.inl h)
theorem SqT.of {K : PySem.W.Frag} (h : H a = some (.tup xs)) : SqT K H a xs := .inl (.inl h)
theorem Inv.list (I : Inv X pins σ H s) (h : SqL X.K H a xs) : ∃ its : List Value, Vals xs its ∧ PlainL s.heap a its.toArray ∧ xs.length ≤ sizeLine := by
  rcases h with h | ⟨o, its, n, hk, hc, hd, hs, hz, r⟩
  · obtain ⟨z, its, n, r, e⟩ := h.ok I.hok
    exact ⟨its, r, ⟨_, n, e, rfl, rfl, rfl⟩, z⟩
  · refine ⟨its.toList, r, ⟨o, n, I.kIn a o hk, hc, hd, by simpa using hs⟩, ?_⟩
    have e := r.length
    simp only [Array.length_toList] at e
    omega
theorem Inv.tuple (I : Inv X pins σ H s) (h : SqT X.K H a xs) : ∃ its : List Value, Vals xs its ∧ IsTup s.heap a its.toArray ∧ xs.length ≤ sizeLine := by
  rcases h with h | ⟨o, its, n, hk, hc, hs, hz, r⟩
  · obtain ⟨z, its, r, p⟩ := h.ok I.hok
    exact ⟨its, r, p.tup, z⟩
  · refine ⟨its.toList, r, ⟨o, I.kIn a o hk, hc, n, by simpa using hs⟩, ?_⟩
    have e := r.length
    simp only [Array.length_toList] at e
    omega
theorem Inv.list_inj (I : Inv X pins σ H s) (h : SqL X.K H a xs) (h' : SqL X.K H a ys) : xs = ys := by
  obtain ⟨its, r, ⟨o, n, e, _, _, d⟩, _⟩ := I.list h
  obtain ⟨its', r', ⟨o', n', e', _, _, d'⟩, _⟩ := I.list h'
  rw [e] at e'; cases e'
  rw [d] at d'
  injection d' with d1 _
  have : its = its' := by simpa using congrArg Array.toList d1
  subst this
  exact r.inj r'
theorem Inv.tuple_inj (I : Inv X pins σ H s) (h : SqT X.K H a xs) (h' : SqT X.K H a ys) : xs = ys := by
  obtain ⟨its, r, ⟨o, e, _, n, d⟩, _⟩ := I.tuple h
  obtain ⟨its', r', ⟨o', e', _, n', d'⟩, _⟩ := I.tuple h'
  rw [e] at e'; cases e'
  rw [d] at d'
  injection d' with d1 _
  have : its = its' := by simpa using congrArg Array.toList d1
  subst this
  exact r.inj r'
end
abbrev Cx.wish (X : Cx) (E : Value → Shared → Prop) : Cx := { X with xe := E }
abbrev Cx.nox (X : Cx) : Cx := X.wish fun _ _ => False
theorem Cx.Ok.wish {X : Cx} (ok : X.Ok) (E : Value → Shared → Prop) : (X.wish E).Ok :=
  ⟨ok.mod, ok.kind, ok.glob, ok.blt, ok.above, ok.inj, ok.has, ok.cab, ok.hd, ok.frames, ok.stk, ok.exf, ok.bs, ok.bsz, ok.noex, ok.exfs, ok.funs, ok.frf⟩
theorem Cx.Ok.unwish {X : Cx} {E : Value → Shared → Prop} (ok : (X.wish E).Ok) : X.Ok :=
  ⟨ok.mod, ok.kind, ok.glob, ok.blt, ok.above, ok.inj, ok.has, ok.cab, ok.hd, ok.frames, ok.stk, ok.exf, ok.bs, ok.bsz, ok.noex, ok.exfs, ok.funs, ok.frf⟩
section
variable {X : Cx} {pins : List (Addr × Obj)} {σ : St} {H : Hp} {s : Shared} {E : Value → Shared → Prop}
theorem Inv.wish (I : Inv X pins σ H s) (E : Value → Shared → Prop) : Inv (X.wish E) pins σ H s := ⟨I.ok.wish E, I.os, I.bare, I.base, I.loc, I.cell, I.free, I.freeC, I.pin, I.hok, I.len⟩
theorem Inv.unwish (I : Inv (X.wish E) pins σ H s) : Inv X pins σ H s := ⟨I.ok.unwish, I.os, I.bare, I.base, I.loc, I.cell, I.free, I.freeC, I.pin, I.hok, I.len⟩
theorem SP.unwish {D : Ends} {f : Flow} {s' : Shared} (h : SP (X.wish E) pins D f s') : SP X pins D f s' := by
  cases f with
  | next => obtain ⟨σ', H', I, q⟩ := h; exact ⟨σ', H', I.unwish, q⟩
  | brk => obtain ⟨σ', H', I, q⟩ := h; exact ⟨σ', H', I.unwish, q⟩
  | cont => obtain ⟨σ', H', I, q⟩ := h; exact ⟨σ', H', I.unwish, q⟩
  | ret u => obtain ⟨v, σ', H', I, r, q⟩ := h; exact ⟨v, σ', H', I.unwish, r, q⟩
theorem PSs.nox {st : List Stmt} {t : TS} (h : PSs X.nox st t) : PSs X st t := fun pins s σ H D I hw =>
  wpAny_mono (h pins s σ H D (I.wish _) hw) (fun _ _ q => q.unwish) fun _ _ z => False.elim z
end
section
variable {X : Cx} {st : Stmt} {rest : List Stmt} {t u : TS} {e : Expr} {te : TE} {pos : Pos}
def tNext : TS := fun D σ H => D.nx σ H
def tSeq (t u : TS) : TS := fun D σ H => t { D with nx := u D } σ H
theorem pss_nil : PSs X [] tNext := fun _ _ σ H _ I h => wpAny_execs_nil ⟨σ, H, I, h⟩
theorem pss_cons (h1 : PS X st t) (h2 : PSs X rest u) : PSs X (st :: rest) (tSeq t u) := by
  intro pins s σ H D I h
  refine wpAny_execs_cons (thn (h1 pins s σ H { D with nx := u D } I h) fun f s1 q => ?_)
  cases f with
  | next =>
    obtain ⟨σ', H', I', q⟩ := q
    exact h2 pins s1 σ' H' D I' q
  | ret v => exact q
  | brk => exact q
  | cont => exact q
theorem pss_one (h1 : PS X st t) : PSs X [st] t := by
  intro pins s σ H D I h
  refine wpAny_execs_cons (thn (h1 pins s σ H D I h) fun f s1 q => ?_)
  cases f with
  | next => exact wpAny_execs_nil q
  | ret v => exact q
  | brk => exact q
  | cont => exact q
def tBreak : TS := fun D σ H => D.bk σ H
def tCont : TS := fun D σ H => D.ct σ H
theorem Inv.quiet {pins : List (Addr × Obj)} {σ : St} {H : Hp} {s : Shared} (I : Inv X pins σ H s) : interactive X.env = false := by simp [interactive, I.ok.kind]
def tDrop (te : TE) : TS := fun D σ H => te σ H fun _ H1 => D.nx σ H1
theorem ps_expr (he : PE X e te) (hs : swapsWith e none pos.line X.env = pure false := by rfl) : PS X (.Expr e pos) (tDrop te) := by
  intro pins s σ H D I h
  exact wpAny_Expr_any (thn (he pins s σ H _ I h) fun v s1 ⟨x, H1, I1, r1, q1⟩ => ⟨σ, H1, I1, q1⟩) I.quiet hs
def tRet (te : TE) : TS := fun D σ H => te σ H D.rt
theorem ps_ret (he : PE X e te) : PS X (.Return (some e) pos) (tRet te) := by
  intro pins s σ H D I h
  exact wpAny_Return_some (thn (he pins s σ H _ I h) fun v s1 ⟨x, H1, I1, r1, q1⟩ => ⟨x, σ, H1, I1, r1, q1⟩)
def tRetN : TS := fun D _ H => D.rt .non H
def tIfS (c : TT) (t u : TS) : TS := fun D σ H => c σ H fun b H1 => if b = true then t D σ H1 else u D σ H1
theorem ps_if {c : Expr} {a b : List Stmt} {tc : TT} (hc : PT X c tc) (ha : PSs X a t) (hb : PSs X b u) : PS X (.If c a b pos) (tIfS tc t u) := by
  intro pins s σ H D I h
  refine wpAny_If (thn (hc pins s σ H _ I h) fun d s1 ⟨H1, I1, q1⟩ => ?_)
  cases d with
  | true => exact ha pins s1 σ H1 D I1 q1
  | false => exact hb pins s1 σ H1 D I1 q1
def tNever : TS := fun _ _ _ => False
end
abbrev TG := V → St → Hp → (St → Hp → Prop) → Prop
abbrev TGs := List V → St → Hp → (St → Hp → Prop) → Prop
def PG (X : Cx) (target : Expr) (t : TG) : Prop :=
  ∀ (pins : List (Addr × Obj)) (s : Shared) (σ : St) (H : Hp) (v : V) (u : Value) (Q : St → Hp → Prop), Inv X pins σ H s → RelV v u → t v σ H Q →
    wpAny (model X.prog X.w) X.A (assign target X.env u) (fun _ s' => ∃ σ' H', Inv X pins σ' H' s' ∧ Q σ' H') X.xe s
def PGs (X : Cx) (ts : List Expr) (t : TGs) : Prop :=
  ∀ (pins : List (Addr × Obj)) (s : Shared) (σ : St) (H : Hp) (vs : List V) (us : List Value) (Q : St → Hp → Prop), Inv X pins σ H s → Vals vs us → t vs σ H Q →
    wpAny (model X.prog X.w) X.A (assignInOrder ((assignEach ts X.env).map (·.2)) us) (fun _ s' => ∃ σ' H', Inv X pins σ' H' s' ∧ Q σ' H') X.xe s
abbrev TSet := V → V → V → Hp → (Hp → Prop) → Prop
def PSet (X : Cx) (t : TSet) : Prop :=
  ∀ (pins : List (Addr × Obj)) (s : Shared) (σ : St) (H : Hp) (o i v : V) (ov iv u : Value) (Q : Hp → Prop), Inv X pins σ H s → RelV o ov → RelV i iv → RelV v u → t o i v H Q →
    wpAny (model X.prog X.w) X.A (setItem ov iv u) (fun _ s' => ∃ H', Inv X pins σ H' s' ∧ Q H') X.xe s
abbrev TIp := V → V → Hp → VK → Prop
def PIp (X : Cx) (op : Operator) (t : TIp) : Prop :=
  ∀ (pins : List (Addr × Obj)) (s : Shared) (σ : St) (H : Hp) (x y : V) (v u : Value) (Q : VK), Inv X pins σ H s → RelV x v → RelV y u → t x y H Q →
    wpAny (model X.prog X.w) X.A (inplaceOp op v u) (EP X pins σ Q) X.xe s
section
variable {X : Cx} {pos : Pos}
def gName (i : Nat) : TG := fun v σ H Q => Q (σ.set i (some v)) H
theorem pg_name {i : Nat} {x : Str} (hN : X.N.Nodup) (hi : X.N[i]? = some x) (hx : Loc X.env.scope x) (hf : X.fn x = true ∨ X.env.scope.names.lookup x = some .local := by first | exact .inl rfl | exact .inr rfl | assumption) : PG X (.Name x pos) (gName i) := by
  intro pins s σ H v u Q I r h
  exact wpAny_assign_Name (store_ok I hN hi hx r (fun s' I' => ⟨_, H, I', h⟩) hf)
def gNil : TGs := fun vs σ H Q => vs = [] ∧ Q σ H
def gCons (t : TG) (u : TGs) : TGs := fun vs σ H Q => ∃ v r, vs = v :: r ∧ t v σ H fun σ' H' => u r σ' H' Q
theorem pgs_nil : PGs X [] gNil := by
  intro pins s σ H vs us Q I r h
  obtain ⟨e, h⟩ := h
  subst e
  cases r
  exact assignInOrder_nil ⟨σ, H, I, h⟩
theorem pgs_cons {e : Expr} {es : List Expr} {t : TG} {u : TGs} (h1 : PG X e t) (h2 : PGs X es u)
    (hs : (assignEach (e :: es) X.env).map (·.2) = assign e X.env :: (assignEach es X.env).map (·.2) := by rfl) : PGs X (e :: es) (gCons t u) := by
  intro pins s σ H vs us Q I r h
  obtain ⟨v, vr, e1, h⟩ := h
  subst e1
  cases r with
  | cons r rr =>
    rw [hs]
    refine assignInOrder_cons (thn (h1 pins s σ H _ _ _ I r h) fun _ s1 ⟨σ1, H1, I1, q1⟩ => ?_)
    exact h2 pins s1 σ1 H1 _ _ Q I1 rr q1
def gTup (K : PySem.W.Frag) (n : Nat) (t : TGs) : TG := fun v σ H Q => ∃ a xs, v = .ref a ∧ SqT K H a xs ∧ xs.length = n ∧ t xs σ H Q
theorem pg_tup {es : List Expr} {k : Nat} {t : TGs} {n : Nat} (hc : X.calm = true) (h : PGs X es t)
    (hn : (assignEach es X.env).length = n := by rfl) (hst : (assignEach es X.env).findIdx? (·.1) = none := by rfl) : PG X (.Tuple es k pos) (gTup X.K n t) := by
  intro pins s σ H v u Q I r hw
  obtain ⟨a, xs, e1, hq, hl, hw⟩ := hw
  subst e1
  cases r
  obtain ⟨its, rv, ht, hz⟩ := I.tuple hq
  refine assign_Tuple_tuple (I.ok.hd hc) ht (by simp [hn, ← hl, rv.length]) hst fun h' hx => ?_
  have I1 : Inv X pins σ H { s with heap := h' } := I.kept (t' := s.toks) fun b o e => hx b o (Nat.ne_of_lt (Heap.lt_size e)) e
  exact h pins _ σ H xs _ Q I1 (by simpa using rv) hw
def gSub (to ti : TE) (t : TSet) : TG := fun v σ H Q => to σ H fun o H1 => ti σ H1 fun i H2 => t o i v H2 fun H3 => Q σ H3
def tAsg (te : TE) (g : TG) : TS := fun D σ H => te σ H fun x H1 => g x σ H1 D.nx
theorem ps_asg {tg e : Expr} {te : TE} {g : TG} (he : PE X e te) (hg : PG X tg g) (hs : swapsWithSole [tg] e pos.line X.env = pure false := by rfl) (hw : swappedStores [tg] e X.env = pure none := by rfl)
    (h1 : (assignEach [tg] X.env).map (·.2) = [assign tg X.env] := by rfl) : PS X (.Assign [tg] e pos) (tAsg te g) := by
  intro pins s σ H D I h
  refine wpAny_Assign_stores (thn (he pins s σ H _ I h) fun v s1 ⟨x, H1, I1, r1, q1⟩ => ?_) hs hw
  rw [h1]
  exact thn (hg pins s1 σ H1 x v _ I1 r1 q1) fun _ s2 q => q
theorem ps_set {i : Nat} {x : Str} {e : Expr} {te : TE} {pos' : Pos} (hN : X.N.Nodup) (hi : X.N[i]? = some x) (hx : Loc X.env.scope x) (he : PE X e te) (hs : swapsWith e (some (.Name x pos')) pos.line X.env = pure false := by rfl) (hf : X.fn x = true ∨ X.env.scope.names.lookup x = some .local := by first | exact .inl rfl | exact .inr rfl | assumption) :
    PS X (.Assign [.Name x pos'] e pos) (tAsg te (gName i)) := by
  intro pins s σ H D I h
  refine wpAny_Assign_Name (thn (he pins s σ H _ I h) fun v s1 ⟨y, H1, I1, r1, q1⟩ => ?_) hs
  exact store_ok I1 hN hi hx r1 (fun s2 I2 => ⟨_, H1, I2, q1⟩) hf
def tPar (i j : Nat) (ta : TA) : TS := fun D σ H => ta σ H fun vs H1 => ∃ v w, vs = [v, w] ∧ D.nx ((σ.set i (some v)).set j (some w)) H1
def tAug (i : Nat) (te : TE) (ti : TIp) : TS := fun D σ H => ∃ x, σ[i]? = some (some x) ∧ te σ H fun y H1 => ti x y H1 fun z H2 => D.nx (σ.set i (some z)) H2
theorem ps_aug {i : Nat} {x : Str} {e : Expr} {te : TE} {op : Operator} {ti : TIp} {pos' : Pos} (hN : X.N.Nodup) (hi : X.N[i]? = some x) (hx : Loc X.env.scope x) (he : PE X e te) (ho : PIp X op ti) (hf : X.fn x = true ∨ X.env.scope.names.lookup x = some .local := by first | exact .inl rfl | exact .inr rfl | assumption) :
    PS X (.AugAssign (.Name x pos') op e pos) (tAug i te ti) := by
  intro pins s σ H D I h
  obtain ⟨v, e1, h⟩ := h
  obtain ⟨m, hn, hl⟩ := I.loc
  have vis : Vis X.env.scope x := by rcases hx with k | k; exact .inl k; exact .inr (.inl k)
  obtain ⟨u, r, l⟩ := hl i x v hi e1 vis
  refine wpAny_AugAssign_Name ?_
  have go : wpAny (model X.prog X.w) X.A (eval e X.env) (fun w s₂ => wpAny (model X.prog X.w) X.A (inplaceOp op u w) (fun r s₃ => wpAny (model X.prog X.w) X.A (storeName X.env x r) (fun _ => SP X pins D .next) X.xe s₃) X.xe s₂) X.xe s := by
    refine thn (he pins s σ H _ I h) fun w s1 ⟨y, H1, I1, r1, q1⟩ => ?_
    refine thn (ho pins s1 σ H1 v y u w _ I1 r r1 q1) fun z s2 ⟨zv, H2, I2, r2, q2⟩ => ?_
    exact store_ok I2 hN hi hx r2 (fun s3 I3 => ⟨_, H2, I3, q2⟩) hf
  rcases l with ⟨hk, hm⟩ | ⟨hk, c, hc, hcell⟩
  · exact wpAny_loadName_local I.ok.kind hk hn hm go
  · rcases hk with hk | hk
    · exact wpAny_loadName_cell I.ok.kind hk hc hcell go
    · rcases hx with k | k
      · have : X.env.scope.names.lookup x = some .free := hk
        rw [k] at this; cases this
      · have : X.env.scope.names.lookup x = some .free := hk
        rw [k] at this; cases this
def tAugS (to ti te : TE) (tget : V → V → Hp → VK → Prop) (tip : TIp) (tset : TSet) : TS := fun D σ H => to σ H fun o H1 => ti σ H1 fun i H2 => tget o i H2 fun x H3 => te σ H3 fun y H4 => tip x y H4 fun z H5 => tset o i z H5 fun H6 => D.nx σ H6
def PGet (X : Cx) (t : V → V → Hp → VK → Prop) : Prop :=
  ∀ (pins : List (Addr × Obj)) (s : Shared) (σ : St) (H : Hp) (o i : V) (ov iv : Value) (Q : VK), Inv X pins σ H s → RelV o ov → RelV i iv → t o i H Q →
    wpAny (model X.prog X.w) X.A (getItem ov iv) (EP X pins σ Q) X.xe s
def ipI (f : Int → Int → Int) : TIp := fun x y H Q => ∃ i j, x = .int i ∧ y = .int j ∧ Q (.int (f i j)) H
theorem ip_add : PIp X .Add (ipI fun i j => i + j) := by
  intro pins s σ H x y v u Q I r1 r2 h
  obtain ⟨i, j, e1, e2, q⟩ := h
  subst e1; subst e2
  obtain ⟨t, rfl⟩ := r1
  obtain ⟨t', rfl⟩ := r2
  exact iadd_int ⟨.int _, H, I.tok _, ⟨_, rfl⟩, q⟩
end
section
variable {X : Cx} {pos : Pos}
def tWhile (c : TT) (tb : TS) : TS := fun D σ H => ∃ W : Nat → St → Hp → Prop, (∃ m, W m σ H) ∧ ∀ m σ H, W m σ H →
  c σ H fun b H1 => if b = true then ∃ N : St → Hp → Prop, (∀ σ' H', N σ' H' → ∃ m', m' < m ∧ W m' σ' H') ∧ tb { D with nx := N, ct := N, bk := D.nx } σ H1 else D.nx σ H1
theorem ps_while {c : Expr} {body : List Stmt} {tc : TT} {tb : TS} (hp : PassesOwn (model X.prog X.w) X.A X.env X.xe) (hc : PT X c tc) (hb : PSs X body tb) : PS X (.While c body [] pos) (tWhile tc tb) := by
  intro pins s σ H D I h
  obtain ⟨W, ⟨m0, w0⟩, turn⟩ := h
  refine wpAny_While (codeAny_whileLoop (fun n s' => ∃ σ' H', Inv X pins σ' H' s' ∧ W n σ' H') ?_ m0 ⟨σ, H, I, w0⟩)
  rintro n s1 ⟨σ1, H1, I1, w1⟩
  refine wpAny_passesOwn hp (thn (hc pins s1 σ1 H1 _ I1 (turn n σ1 H1 w1)) fun b s2 ⟨H2, I2, q2⟩ => ?_)
  cases b with
  | true =>
    obtain ⟨N, hN, q2⟩ := q2
    rw [if_pos rfl]
    refine wpAny_passesOwn hp (thn (hb pins s2 σ1 H2 _ I2 q2) fun f s3 q3 => ?_)
    cases f with
    | next =>
      obtain ⟨σ3, H3, I3, n3⟩ := q3
      obtain ⟨m', hm, w3⟩ := hN σ3 H3 n3
      exact ⟨m', hm, σ3, H3, I3, w3⟩
    | cont =>
      obtain ⟨σ3, H3, I3, n3⟩ := q3
      obtain ⟨m', hm, w3⟩ := hN σ3 H3 n3
      exact ⟨m', hm, σ3, H3, I3, w3⟩
    | brk => exact q3
    | ret v => exact q3
  | false =>
    rw [if_neg Bool.false_ne_true]
    exact wpAny_execs_nil ⟨σ1, H2, I2, q2⟩
end
structure It where
  go : Nat → Hp → Prop
  yld : Nat → Hp → V → Hp → Prop
  stop : Nat → Hp → Prop
def FpOk (X : Cx) (pins : List (Addr × Obj)) (H : Hp) (b : Addr) : Prop :=
  H b = none ∧ b ≠ X.env.locals ∧ b ∉ X.fs ∧ (b ∈ X.ex ∨ X.s₀.heap.objs.size ≤ b) ∧ (∀ x c, X.env.cells.lookup x = some c → c ≠ b) ∧ ∀ p ∈ X.pn ++ pins, p.1 ≠ b
theorem Inv.fpOk {X : Cx} {pins : List (Addr × Obj)} {σ : St} {H H' : Hp} {s : Shared} {b : Addr} (I : Inv X pins σ H s) (hb : s.heap.objs.size ≤ b) (hn : H' b = none) : FpOk X pins H' b := by
  refine ⟨hn, Nat.ne_of_gt (Nat.lt_of_lt_of_le I.lt hb), I.nofs hb, .inr (Nat.le_trans I.sz hb), fun x c e z => ?_, fun p hp z => ?_⟩
  · obtain ⟨v, q⟩ := I.cell x c e
    exact absurd (Nat.lt_of_lt_of_le q.lt (by rw [z]; exact hb)) (Nat.lt_irrefl _)
  · exact absurd (Nat.lt_of_lt_of_le (Heap.lt_size (I.pin p hp).1) (by rw [z]; exact hb)) (Nat.lt_irrefl _)
structure Turn (P : Program) (w : World) (K : PySem.W.Frag) (tg : Expr) (J : It) (fp : List Addr) (it : Addr) (tn : Nat → Heap → Prop) : Prop where
  mem : it ∈ fp
  obj : ∀ i h, tn i h → ∀ b ∈ fp, ∃ o, h.get? b = some o ∧ ∀ v, o.data ≠ .cell v
  keep : ∀ i h h', tn i h → (∀ b ∈ fp, ∀ o, h.get? b = some o → h'.get? b = some o) → tn i h'
  item : ∀ (X : Cx), X.prog = P → X.w = w → X.K = K → X.calm = true → ∀ (i : Nat) (pins : List (Addr × Obj)) (s : Shared) (σ : St) (H : Hp) (E : Value → Shared → Prop), Inv X pins σ H s → (∀ b ∈ fp, FpOk X pins H b) → tn i s.heap → J.go i H →
    wpAny (model P w) X.A (pyNext (.ref it)) (fun r s1 => ∃ u, r = some u ∧
      wpAny (model P w) X.A (letOwnedTupleGo tg (.ref it) u) (fun _ s2 => ∃ x H', Inv X pins σ H' s2 ∧ RelV x u ∧ J.yld i H x H' ∧ tn (i + 1) s2.heap ∧ ∀ b ∈ fp, H' b = none) E s1) E s
  done : ∀ (X : Cx), X.prog = P → X.w = w → X.K = K → X.calm = true → ∀ (i : Nat) (pins : List (Addr × Obj)) (s : Shared) (σ : St) (H : Hp) (E : Value → Shared → Prop), Inv X pins σ H s → (∀ b ∈ fp, FpOk X pins H b) → tn i s.heap → J.stop i H →
    wpAny (model P w) X.A (pyNext (.ref it)) (fun r s1 => r = none ∧ Inv X pins σ H s1) E s
  self : ∀ (A : Around) (i : Nat) (s : Shared) (Q : Value → Shared → Prop) (E : Value → Shared → Prop), tn i s.heap → Q (.ref it) s → wpAny (model P w) A (pyIter (.ref it)) Q E s
abbrev TI := St → Hp → (It → Hp → Prop) → Prop
def PIE (X : Cx) (pins : List (Addr × Obj)) (σ : St) (tg : Expr) (R : It → Hp → Prop) (itv : Value) (s2 : Shared) : Prop :=
  ∃ (it : Addr) (fp : List Addr) (tn : Nat → Heap → Prop) (J : It) (H' : Hp), itv = .ref it ∧ Inv X pins σ H' s2 ∧ Turn X.prog X.w X.K tg J fp it tn ∧ tn 0 s2.heap ∧ (∀ b ∈ fp, FpOk X pins H' b) ∧ R J H'
def PI (X : Cx) (tg iter : Expr) (wi : TI) : Prop :=
  ∀ (pins : List (Addr × Obj)) (s : Shared) (σ : St) (H : Hp) (R : It → Hp → Prop), Inv X pins σ H s → wi σ H R →
    wpAny (model X.prog X.w) X.A (eval iter X.env) (fun v s1 => wpAny (model X.prog X.w) X.A (pyIter v) (PIE X pins σ tg R) X.xe s1) X.xe s
theorem go_of {M : Model} {A : Around} {E : Value → Shared → Prop} {s : Shared} {tg : Expr} {it : Addr} {u : Value} {o : Obj} {n : String} {vs : Array Value} {Q : Unit → Shared → Prop} (ho : s.heap.get? it = some o) (hc : o.cls = .type n) (hd : o.data = .fields vs)
    (hn : ["enumerate", "zip", "dict_itemiterator", "dict_reverseitemiterator", "odict_iterator", "itertools.zip_longest", "itertools.pairwise"].contains n = false) (hQ : Q () s) : wpAny M A (letOwnedTupleGo tg (.ref it) u) Q E s := by
  unfold letOwnedTupleGo
  cases tg <;> first
    | exact wpAny_pure hQ
    | (cases u <;> first
        | exact wpAny_pure hQ
        | (refine wpAny_bind (wpAny_load ho ?_)
           rw [hc, hd]
           show wpAny M A (if (["enumerate", "zip", "dict_itemiterator", "dict_reverseitemiterator", "odict_iterator", "itertools.zip_longest", "itertools.pairwise"].contains n && vs[0]? == some (rawInt _)) = true then _ else _) Q E s
           rw [if_neg (by intro h; rw [hn, Bool.false_and] at h; cases h)]
           exact wpAny_pure hQ))
def Itl (K : PySem.W.Frag) (a : Addr) : It :=
  ⟨fun i H => ∃ xs x, SqL K H a xs ∧ xs[i]? = some x, fun i H x H' => H' = H ∧ ∀ xs, SqL K H a xs → xs[i]? = some x, fun i H => ∃ xs, SqL K H a xs ∧ xs.length ≤ i⟩
def Itt (K : PySem.W.Frag) (a : Addr) : It :=
  ⟨fun i H => ∃ xs x, SqT K H a xs ∧ xs[i]? = some x, fun i H x H' => H' = H ∧ ∀ xs, SqT K H a xs → xs[i]? = some x, fun i H => ∃ xs, SqT K H a xs ∧ xs.length ≤ i⟩
def Itr (lo : Int) (n : Nat) : It := ⟨fun i _ => i < n, fun i H x H' => H' = H ∧ x = .int (lo + i), fun i _ => n ≤ i⟩
theorem turn_list {P : Program} {w : World} {K : PySem.W.Frag} {tg : Expr} (a it : Addr) : Turn P w K tg (Itl K a) [it] it (fun i h => h.IsListIter it a i) where
  mem := by simp
  obj := fun i h st b hb => by
    have e : b = it := by simpa using hb
    subst e
    obtain ⟨o, e, c, d⟩ := st
    exact ⟨o, e, fun v z => by rw [d] at z; cases z⟩
  keep := fun i h h' st k => st.at fun o e => k it (by simp) o e
  item := by
    intro X hP hw hK hc i pins s σ H E I hf st hg
    subst hP hw hK
    obtain ⟨xs, x, hq, hx⟩ := hg
    obtain ⟨its, rv, p, hz⟩ := I.list hq
    obtain ⟨u, hu, ru⟩ := rv.get hx
    obtain ⟨f0, f1, f2, f3, f4, f5⟩ := hf it (by simp)
    refine wpAny_pyNext_list_item st p.isList (x := u) (by simpa using hu) fun h' st' sb => ?_
    have I1 : Inv X pins σ H { s with heap := h' } := I.turned (t' := s.toks) (fun b o hb e => (sb.2 b hb).trans e) f0 f1 f3 f4 f5
    obtain ⟨o, e, c, d⟩ := id st'
    exact ⟨u, rfl, go_of (s := { s with heap := h' }) e c d (by decide) ⟨x, H, I1, ru, ⟨rfl, fun ys hy => by rw [I.list_inj hy hq]; exact hx⟩, st', fun b hb => (hf b hb).1⟩⟩
  done := by
    intro X hP hw hK hc i pins s σ H E I hf st hg
    subst hP hw hK
    obtain ⟨xs, hq, hx⟩ := hg
    obtain ⟨its, rv, p, hz⟩ := I.list hq
    obtain ⟨f0, f1, f2, f3, f4, f5⟩ := hf it (by simp)
    have hl := rv.length
    exact wpAny_pyNext_list_end (I.ok.hd hc) st p.isList (by simp; omega) fun h' eb => ⟨rfl, I.turned (t' := s.toks) (fun b o hb e => eb b o hb e) f0 f1 f3 f4 f5⟩
  self := fun _ _ _ _ _ st h => wpAny_pyIter_listiter st h
theorem turn_tuple {P : Program} {w : World} {K : PySem.W.Frag} {tg : Expr} (a it : Addr) : Turn P w K tg (Itt K a) [it] it (fun i h => h.IsTupleIter it a i) where
  mem := by simp
  obj := fun i h st b hb => by
    have e : b = it := by simpa using hb
    subst e
    obtain ⟨o, e, c, d⟩ := st
    exact ⟨o, e, fun v z => by rw [d] at z; cases z⟩
  keep := fun i h h' st k => st.at fun o e => k it (by simp) o e
  item := by
    intro X hP hw hK hc i pins s σ H E I hf st hg
    subst hP hw hK
    obtain ⟨xs, x, hq, hx⟩ := hg
    obtain ⟨its, rv, p, hz⟩ := I.tuple hq
    obtain ⟨u, hu, ru⟩ := rv.get hx
    obtain ⟨f0, f1, f2, f3, f4, f5⟩ := hf it (by simp)
    refine wpAny_pyNext_tuple_item st (show s.heap.IsTuple a its.toArray from p) (x := u) (by simpa using hu) fun h' st' sb => ?_
    have I1 : Inv X pins σ H { s with heap := h' } := I.turned (t' := s.toks) (fun b o hb e => (sb.2 b hb).trans e) f0 f1 f3 f4 f5
    obtain ⟨o, e, c, d⟩ := id st'
    exact ⟨u, rfl, go_of (s := { s with heap := h' }) e c d (by decide) ⟨x, H, I1, ru, ⟨rfl, fun ys hy => by rw [I.tuple_inj hy hq]; exact hx⟩, st', fun b hb => (hf b hb).1⟩⟩
  done := by
    intro X hP hw hK hc i pins s σ H E I hf st hg
    subst hP hw hK
    obtain ⟨xs, hq, hx⟩ := hg
    obtain ⟨its, rv, p, hz⟩ := I.tuple hq
    obtain ⟨f0, f1, f2, f3, f4, f5⟩ := hf it (by simp)
    have hl := rv.length
    exact wpAny_pyNext_tuple_end (I.ok.hd hc) st (show s.heap.IsTuple a its.toArray from p) (by simp; omega) fun h' eb => ⟨rfl, I.turned (t' := s.toks) (fun b o hb e => eb b o hb e) f0 f1 f3 f4 f5⟩
  self := fun _ _ _ _ _ st h => wpAny_pyIter_tupleiter st h
theorem turn_range {P : Program} {w : World} {K : PySem.W.Frag} {tg : Expr} (it : Addr) (lo : Int) (n : Nat) : Turn P w K tg (Itr lo n) [it] it (fun i h => IsRangeIter h it (lo + (i : Nat) * 1) ((n : Int) - (i : Nat)) 1) where
  mem := by simp
  obj := fun i h st b hb => by
    have e : b = it := by simpa using hb
    subst e
    exact ⟨_, st, fun v z => by
      have z' : Data.fields _ = Data.cell v := z
      cases z'⟩
  keep := fun i h h' st k => k it (by simp) _ st
  item := by
    intro X hP hw hK hc i pins s σ H E I hf st hg
    subst hP hw hK
    obtain ⟨f0, f1, f2, f3, f4, f5⟩ := hf it (by simp)
    have W := Walks.range (prog := X.prog) (w := X.w) (I.ok.hd hc) it lo 1 n
    refine W.item i s _ _ hg st fun v h' tk hv st' kk => ?_
    obtain ⟨t, rfl⟩ := hv
    have I1 : Inv X pins σ H { s with heap := h', toks := tk } := I.turned (fun b o hb e => kk b o (by simpa using hb) e) f0 f1 f3 f4 f5
    refine ⟨_, rfl, go_of (s := { s with heap := h', toks := tk }) (n := "range_iterator") st' rfl rfl (by decide) ⟨.int (lo + i), H, I1, ⟨t, ?_⟩, ⟨rfl, rfl⟩, st', fun b hb => (hf b hb).1⟩⟩
    rw [Int.mul_one]
  done := by
    intro X hP hw hK hc i pins s σ H E I hf st hg
    subst hP hw hK
    obtain ⟨f0, f1, f2, f3, f4, f5⟩ := hf it (by simp)
    exact wpAny_pyNext_range_end (I.ok.hd hc) st (by have : n ≤ i := hg; omega) fun h' eb => ⟨rfl, I.turned (t' := s.toks) (fun b o hb e => eb b o hb e) f0 f1 f3 f4 f5⟩
  self := fun _ _ _ _ _ st h => wpAny_pyIter_rangeiter st h
end L2
namespace L2
open PySem PySem.Spec PyProof.Rows
section
variable {X : Cx} {tg : Expr}
def iList (K : PySem.W.Frag) (tl : TE) : TI := fun σ H R => tl σ H fun x H1 => ∃ a, x = .ref a ∧ (∃ xs, SqL K H1 a xs) ∧ R (Itl K a) H1
def iTup (K : PySem.W.Frag) (tl : TE) : TI := fun σ H R => tl σ H fun x H1 => ∃ a, x = .ref a ∧ (∃ xs, SqT K H1 a xs) ∧ R (Itt K a) H1
theorem pi_list {l : Expr} {tl : TE} (hl : PE X l tl) : PI X tg l (iList X.K tl) := by
  intro pins s σ H R I h
  refine thn (hl pins s σ H _ I h) fun v s1 ⟨x, H1, I1, r1, q1⟩ => ?_
  obtain ⟨a, e, ⟨xs, hq⟩, q⟩ := q1
  subst e
  cases r1
  obtain ⟨its, rv, p, hz⟩ := I1.list hq
  refine wpAny_pyIter_list p.isList ?_
  refine ⟨s1.heap.objs.size, [s1.heap.objs.size], _, _, H1, rfl, I1.kept (t' := s1.toks) fun b o e => Heap.get?_push_of_some _ e, turn_list a _, ⟨_, Heap.get?_push_size _ rfl, rfl, rfl⟩, fun b hb => ?_, q⟩
  have e : b = s1.heap.objs.size := by simpa using hb
  subst e
  exact I1.fpOk (Nat.le_refl _) (I1.hok.fresh (Nat.le_refl _))
theorem pi_tup {l : Expr} {tl : TE} (hl : PE X l tl) : PI X tg l (iTup X.K tl) := by
  intro pins s σ H R I h
  refine thn (hl pins s σ H _ I h) fun v s1 ⟨x, H1, I1, r1, q1⟩ => ?_
  obtain ⟨a, e, ⟨xs, hq⟩, q⟩ := q1
  subst e
  cases r1
  obtain ⟨its, rv, p, hz⟩ := I1.tuple hq
  refine wpAny_pyIter_tuple (show s1.heap.IsTuple a its.toArray from p) ?_
  refine ⟨s1.heap.objs.size, [s1.heap.objs.size], _, _, H1, rfl, I1.kept (t' := s1.toks) fun b o e => Heap.get?_push_of_some _ e, turn_tuple a _, ⟨_, Heap.get?_push_size _ rfl, rfl, rfl⟩, fun b hb => ?_, q⟩
  have e : b = s1.heap.objs.size := by simpa using hb
  subst e
  exact I1.fpOk (Nat.le_refl _) (I1.hok.fresh (Nat.le_refl _))
theorem range_it {pins : List (Addr × Obj)} {σ : St} {H : Hp} {s : Shared} {R : It → Hp → Prop} {E : Value → Shared → Prop} {lo hi : Int} {t u v : Tok} {tk : Nat} (I : Inv X pins σ H s) (h1 : -(2 ^ 62) ≤ lo) (h2 : lo < 2 ^ 62) (h3 : -(2 ^ 62) ≤ hi) (h4 : hi < 2 ^ 62)
    (q : R (Itr lo (hi - lo).toNat) H) : wpAny (model X.prog X.w) X.A (pyIter (.ref s.heap.objs.size)) (PIE X pins σ tg R) E { s with heap := s.heap.push { cls := .type "range", data := .fields #[.int lo t, .int hi u, .int 1 v] }, toks := tk } := by
  refine wpAny_pyIter_range (IsRange.new ..) (small_one h1 h2 h3 h4) ?_
  have I1 : Inv X pins σ H { s with heap := s.heap.push { cls := .type "range", data := .fields #[.int lo t, .int hi u, .int 1 v] }, toks := tk } := I.kept fun b o e => Heap.get?_push_of_some _ e
  refine ⟨(s.heap.push { cls := .type "range", data := .fields #[.int lo t, .int hi u, .int 1 v] }).objs.size, [(s.heap.push { cls := .type "range", data := .fields #[.int lo t, .int hi u, .int 1 v] }).objs.size], _, _, H, rfl,
    I1.kept (t' := tk) fun b o e => Heap.get?_push_of_some _ e, turn_range _ lo (hi - lo).toNat, ?_, fun b hb => ?_, q⟩
  · have e1 : lo + ((0 : Nat) : Int) * 1 = lo := by simp
    have e2 : (((hi - lo).toNat : Nat) : Int) - ((0 : Nat) : Int) = Builtin.Range.rangeSize lo hi 1 := by rw [rangeSize_one]; split <;> omega
    show IsRangeIter _ _ (lo + ((0 : Nat) : Int) * 1) ((((hi - lo).toNat : Nat) : Int) - ((0 : Nat) : Int)) 1
    rw [e1, e2]
    exact Heap.get?_push_size _ rfl
  · have e : b = (s.heap.push { cls := .type "range", data := .fields #[.int lo t, .int hi u, .int 1 v] }).objs.size := by simpa using hb
    subst e
    exact I1.fpOk (Nat.le_refl _) (I1.hok.fresh (Nat.le_refl _))
def iRng1 (ta : TA) : TI := fun σ H R => ta σ H fun vs H1 => ∃ j : Int, vs = [.int j] ∧ -(2 ^ 62) ≤ j ∧ j < 2 ^ 62 ∧ R (Itr 0 j.toNat) H1
def iRng2 (ta : TA) : TI := fun σ H R => ta σ H fun vs H1 => ∃ i j : Int, vs = [.int i, .int j] ∧ (-(2 ^ 62) ≤ i ∧ i < 2 ^ 62 ∧ -(2 ^ 62) ≤ j ∧ j < 2 ^ 62) ∧ R (Itr i (j - i).toNat) H1
theorem pi_range1 {a : Expr} {ta : TA} {p pos : Pos} (hg : Gl X "range") (hm : X.mg "range" = none) (ha : PA X [a] ta) (hs : starEach [a] X.env = [(false, eval a X.env)] := by rfl) : PI X tg (.Call (.Name "range" p) [a] [] pos) (iRng1 ta) := by
  intro pins s σ H R I h
  refine Call_ (ld_blt I hg hm boot_range (PyProof.Rows.callWith_type1 (thn (ha pos pins s σ H _ I h) fun us s1 ⟨vs, H1, I1, r1, q1⟩ => ?_) hs rfl))
  obtain ⟨j, e, q1, q2, q⟩ := q1
  subst e
  cases r1 with
  | cons r rr =>
    cases rr
    obtain ⟨t, rfl⟩ := r
    exact call_range_1 (range_it I1 (by omega) (by omega) q1 q2 (by simpa using q))
theorem pi_range2 {a b : Expr} {ta : TA} {p pos : Pos} (hg : Gl X "range") (hm : X.mg "range" = none) (ha : PA X [a, b] ta) (hs : starEach [a, b] X.env = [(false, eval a X.env), (false, eval b X.env)] := by rfl) (hs2 : starEach [b] X.env = [(false, eval b X.env)] := by rfl) :
    PI X tg (.Call (.Name "range" p) [a, b] [] pos) (iRng2 ta) := by
  intro pins s σ H R I h
  refine Call_ (ld_blt I hg hm boot_range (PyProof.Rows.callWith_type1 (thn (ha pos pins s σ H _ I h) fun us s1 ⟨vs, H1, I1, r1, q1⟩ => ?_) (by rw [hs, hs2]) (by rw [hs2]; rfl)))
  obtain ⟨i, j, e, ⟨q1, q2, q3, q4⟩, q⟩ := q1
  subst e
  cases r1 with
  | cons r rr =>
    cases rr with
    | cons r' rr =>
      cases rr
      obtain ⟨t, rfl⟩ := r
      obtain ⟨t', rfl⟩ := r'
      exact call_range_2 (range_it I1 q1 q2 q3 q4 q)
def tFor (wi : TI) (g : TG) (tb : TS) : TS := fun D σ H => wi σ H fun J H1 => ∃ W : Nat → Nat → St → Hp → Prop, (∃ m, W 0 m σ H1) ∧ ∀ i m σ H, W i m σ H →
  (J.stop i H ∧ D.nx σ H) ∨ (J.go i H ∧ ∃ N : St → Hp → Prop, (∀ σ' H', N σ' H' → ∃ m', m' < m ∧ W (i + 1) m' σ' H') ∧ ∀ x H', J.yld i H x H' → g x σ H' fun σ2 H2 => tb { D with nx := N, ct := N, bk := D.nx } σ2 H2)
def pinsAt (fp : List Addr) (h : Heap) : List (Addr × Obj) := fp.filterMap fun b => (h.get? b).map fun o => (b, o)
theorem mem_pinsAt {fp : List Addr} {h : Heap} {b : Addr} {o : Obj} (hb : b ∈ fp) (e : h.get? b = some o) : (b, o) ∈ pinsAt fp h := List.mem_filterMap.mpr ⟨b, hb, by rw [e]; rfl⟩
theorem of_pinsAt {fp : List Addr} {h : Heap} {p : Addr × Obj} (hp : p ∈ pinsAt fp h) : p.1 ∈ fp ∧ h.get? p.1 = some p.2 := by
  obtain ⟨b, hb, e⟩ := List.mem_filterMap.mp hp
  cases q : h.get? b with
  | none => rw [q] at e; cases e
  | some o =>
    rw [q] at e
    have e' : (b, o) = p := Option.some.inj e
    subst e'
    exact ⟨hb, q⟩
theorem Inv.pinned {pins : List (Addr × Obj)} {σ : St} {H : Hp} {s : Shared} {fp : List Addr} (I : Inv X pins σ H s) (hf : ∀ b ∈ fp, FpOk X pins H b) (ho : ∀ b ∈ fp, ∃ o, s.heap.get? b = some o ∧ ∀ v, o.data ≠ .cell v) : Inv X (pins ++ pinsAt fp s.heap) σ H s :=
  I.pins_of fun p hp => (List.mem_append.mp hp).elim (fun z => I.pin p (List.mem_append_right _ z)) fun z => by
    obtain ⟨hb, e⟩ := of_pinsAt z
    obtain ⟨f0, f1, f2, _⟩ := hf p.1 hb
    obtain ⟨o, e', d⟩ := ho p.1 hb
    rw [e] at e'; cases e'
    exact ⟨e, f0, f1, f2, d⟩
theorem Inv.unpinned {pins pl : List (Addr × Obj)} {σ : St} {H : Hp} {s : Shared} (I : Inv X (pins ++ pl) σ H s) : Inv X pins σ H s := I.pins_of fun p hp => I.pin p (List.mem_append_right _ (List.mem_append_left _ hp))
theorem ps_for {iter : Expr} {body : List Stmt} {wi : TI} {g : TG} {tb : TS} {pos : Pos} (hp : PassesOwn (model X.prog X.w) X.A X.env X.xe) (hc : X.calm = true) (hi : PI X tg iter wi) (hg : PG X tg g) (hb : PSs X body tb)
    (hs : ∀ x, foldedSetIterable iter X.env x = pure x := by intro _; rfl) : PS X (.For tg iter body [] pos) (tFor wi g tb) := by
  intro pins s σ H D I h
  refine wpAny_For (thn (hi pins s σ H _ I h) fun v s1 h1 => thn h1 fun itv s2 h2 => ?_) hs
  obtain ⟨it, fp, tn, J, H2, e, I2, T, st2, f2, W, ⟨m0, w0⟩, turn⟩ := h2
  subst e
  -- what stays true of the iterator's objects through the loop
  have stat : ∀ {H' : Hp}, (∀ b ∈ fp, H' b = none) → ∀ b ∈ fp, FpOk X pins H' b := fun hn b hb => ⟨hn b hb, (f2 b hb).2⟩
  refine codeAny_forLoop_any (fun n s' => ∃ i σ' H', Inv X pins σ' H' s' ∧ tn i s'.heap ∧ (∀ b ∈ fp, H' b = none) ∧ W i n σ' H') ?_ m0 ⟨0, σ, H2, I2, st2, fun b hb => (f2 b hb).1, w0⟩
  rintro n s3 ⟨i, σ3, H3, I3, st3, fr3, w3⟩
  rcases turn i n σ3 H3 w3 with ⟨stop, qn⟩ | ⟨go, N, hN, step⟩
  · refine wpAny_passesOwn hp (thn (T.done X rfl rfl rfl hc i pins s3 σ3 H3 X.xe I3 (stat fr3) st3 stop) fun r s4 ⟨hr, I4⟩ => ?_)
    subst hr
    exact wpAny_execs_nil ⟨σ3, H3, I4, qn⟩
  · refine wpAny_passesOwn hp (thn (T.item X rfl rfl rfl hc i pins s3 σ3 H3 X.xe I3 (stat fr3) st3 go) fun r s4 ⟨u, hr, h4⟩ => ?_)
    subst hr
    refine wpAny_passesOwn hp (thn h4 fun _ s5 ⟨x, H5, I5, r5, y5, st5, fr5⟩ => ?_)
    have I5' := I5.pinned (stat fr5) (T.obj _ _ st5)
    refine wpAny_passesOwn hp (thn (hg _ s5 σ3 H5 x u _ I5' r5 (step x H5 y5)) fun _ s6 ⟨σ6, H6, I6, q6⟩ => ?_)
    refine wpAny_passesOwn hp (thn (hb _ s6 σ6 H6 _ I6 q6) fun f s7 q7 => ?_)
    have again : ∀ {σ7 : St} {H7 : Hp}, Inv X (pins ++ pinsAt fp s5.heap) σ7 H7 s7 → N σ7 H7 → ∃ m, m < n ∧ ∃ i σ' H', Inv X pins σ' H' s7 ∧ tn i s7.heap ∧ (∀ b ∈ fp, H' b = none) ∧ W i m σ' H' := fun {σ7 H7} I7 n7 => by
      obtain ⟨m', hm, w7⟩ := hN σ7 H7 n7
      refine ⟨m', hm, i + 1, σ7, H7, I7.unpinned, T.keep _ _ _ st5 fun b hb o e => (I7.pin (b, o) (List.mem_append_right _ (List.mem_append_right _ (mem_pinsAt hb e)))).1, fun b hb => ?_, w7⟩
      obtain ⟨o, e, d⟩ := T.obj _ _ st5 b hb
      exact (I7.pin (b, o) (List.mem_append_right _ (List.mem_append_right _ (mem_pinsAt hb e)))).2.1
    cases f with
    | next => obtain ⟨σ7, H7, I7, n7⟩ := q7; exact again I7 n7
    | cont => obtain ⟨σ7, H7, I7, n7⟩ := q7; exact again I7 n7
    | brk => obtain ⟨σ7, H7, I7, q7⟩ := q7; exact ⟨σ7, H7, I7.unpinned, q7⟩
    | ret v => obtain ⟨x7, σ7, H7, I7, r7, q7⟩ := q7; exact ⟨x7, σ7, H7, I7.unpinned, r7, q7⟩
end
theorem for_list {K : PySem.W.Frag} {a : Addr} {xs : List V} {g : TG} {tb : TS} {D : Ends} {σ : St} {H : Hp} (Pv : Nat → St → Hp → Prop) (h0 : Pv 0 σ H) (hl : ∀ i σ H, i ≤ xs.length → Pv i σ H → SqL K H a xs)
    (hs : ∀ i x σ H, xs[i]? = some x → Pv i σ H → g x σ H fun σ2 H2 => tb { D with nx := Pv (i + 1), ct := Pv (i + 1), bk := D.nx } σ2 H2) (hd : ∀ σ H, Pv xs.length σ H → D.nx σ H) :
    ∃ W : Nat → Nat → St → Hp → Prop, (∃ m, W 0 m σ H) ∧ ∀ i m σ H, W i m σ H →
      ((Itl K a).stop i H ∧ D.nx σ H) ∨ ((Itl K a).go i H ∧ ∃ N : St → Hp → Prop, (∀ σ' H', N σ' H' → ∃ m', m' < m ∧ W (i + 1) m' σ' H') ∧ ∀ x H', (Itl K a).yld i H x H' → g x σ H' fun σ2 H2 => tb { D with nx := N, ct := N, bk := D.nx } σ2 H2) := by
  refine ⟨fun i m σ H => m = xs.length - i ∧ i ≤ xs.length ∧ Pv i σ H, ⟨xs.length, by simp, Nat.zero_le _, h0⟩, ?_⟩
  rintro i m σ H ⟨rfl, hi, p⟩
  have q := hl i σ H hi p
  by_cases hlt : i < xs.length
  · refine .inr ⟨⟨xs, xs[i], q, by simp [hlt]⟩, Pv (i + 1), fun σ' H' p' => ⟨xs.length - (i + 1), by omega, rfl, hlt, p'⟩, fun x H' y => ?_⟩
    obtain ⟨e, y⟩ := y
    subst e
    exact hs i x σ _ (y xs q) p
  · have e : i = xs.length := by omega
    subst e
    exact .inl ⟨⟨xs, q, Nat.le_refl _⟩, hd σ H p⟩
theorem for_tup {K : PySem.W.Frag} {a : Addr} {xs : List V} {g : TG} {tb : TS} {D : Ends} {σ : St} {H : Hp} (Pv : Nat → St → Hp → Prop) (h0 : Pv 0 σ H) (hl : ∀ i σ H, i ≤ xs.length → Pv i σ H → SqT K H a xs)
    (hs : ∀ i x σ H, xs[i]? = some x → Pv i σ H → g x σ H fun σ2 H2 => tb { D with nx := Pv (i + 1), ct := Pv (i + 1), bk := D.nx } σ2 H2) (hd : ∀ σ H, Pv xs.length σ H → D.nx σ H) :
    ∃ W : Nat → Nat → St → Hp → Prop, (∃ m, W 0 m σ H) ∧ ∀ i m σ H, W i m σ H →
      ((Itt K a).stop i H ∧ D.nx σ H) ∨ ((Itt K a).go i H ∧ ∃ N : St → Hp → Prop, (∀ σ' H', N σ' H' → ∃ m', m' < m ∧ W (i + 1) m' σ' H') ∧ ∀ x H', (Itt K a).yld i H x H' → g x σ H' fun σ2 H2 => tb { D with nx := N, ct := N, bk := D.nx } σ2 H2) := by
  refine ⟨fun i m σ H => m = xs.length - i ∧ i ≤ xs.length ∧ Pv i σ H, ⟨xs.length, by simp, Nat.zero_le _, h0⟩, ?_⟩
  rintro i m σ H ⟨rfl, hi, p⟩
  have q := hl i σ H hi p
  by_cases hlt : i < xs.length
  · refine .inr ⟨⟨xs, xs[i], q, by simp [hlt]⟩, Pv (i + 1), fun σ' H' p' => ⟨xs.length - (i + 1), by omega, rfl, hlt, p'⟩, fun x H' y => ?_⟩
    obtain ⟨e, y⟩ := y
    subst e
    exact hs i x σ _ (y xs q) p
  · have e : i = xs.length := by omega
    subst e
    exact .inl ⟨⟨xs, q, Nat.le_refl _⟩, hd σ H p⟩
theorem for_range {lo : Int} {n : Nat} {g : TG} {tb : TS} {D : Ends} {σ : St} {H : Hp} (Pv : Nat → St → Hp → Prop) (h0 : Pv 0 σ H)
    (hs : ∀ i σ H, i < n → Pv i σ H → g (.int (lo + i)) σ H fun σ2 H2 => tb { D with nx := Pv (i + 1), ct := Pv (i + 1), bk := D.nx } σ2 H2) (hd : ∀ σ H, Pv n σ H → D.nx σ H) :
    ∃ W : Nat → Nat → St → Hp → Prop, (∃ m, W 0 m σ H) ∧ ∀ i m σ H, W i m σ H →
      ((Itr lo n).stop i H ∧ D.nx σ H) ∨ ((Itr lo n).go i H ∧ ∃ N : St → Hp → Prop, (∀ σ' H', N σ' H' → ∃ m', m' < m ∧ W (i + 1) m' σ' H') ∧ ∀ x H', (Itr lo n).yld i H x H' → g x σ H' fun σ2 H2 => tb { D with nx := N, ct := N, bk := D.nx } σ2 H2) := by
  refine ⟨fun i m σ H => m = n - i ∧ i ≤ n ∧ Pv i σ H, ⟨n, by simp, Nat.zero_le _, h0⟩, ?_⟩
  rintro i m σ H ⟨rfl, hi, p⟩
  by_cases hlt : i < n
  · refine .inr ⟨hlt, Pv (i + 1), fun σ' H' p' => ⟨n - (i + 1), by omega, rfl, hlt, p'⟩, fun x H' y => ?_⟩
    obtain ⟨e, y⟩ := y
    subst e y
    exact hs i σ _ hlt p
  · have e : i = n := by omega
    subst e
    exact .inl ⟨Nat.le_refl _, hd σ H p⟩
end L2
namespace L2
open PySem PySem.Spec PyProof.Rows
abbrev R2 := V → V → Hp → VK → Prop
def OpR (X : Cx) (f : Value → Value → Sem Value) (r : R2) : Prop :=
  ∀ (pins : List (Addr × Obj)) (s : Shared) (σ : St) (H : Hp) (x y : V) (v u : Value) (Q : VK), Inv X pins σ H s → RelV x v → RelV y u → r x y H Q →
    wpAny (model X.prog X.w) X.A (f v u) (EP X pins σ Q) X.xe s
def UnR (X : Cx) (f : Value → Sem Value) (r : V → Hp → VK → Prop) : Prop :=
  ∀ (pins : List (Addr × Obj)) (s : Shared) (σ : St) (H : Hp) (x : V) (v : Value) (Q : VK), Inv X pins σ H s → RelV x v → r x H Q →
    wpAny (model X.prog X.w) X.A (f v) (EP X pins σ Q) X.xe s
def CallR (X : Cx) (f : Value) (r : List V → Hp → VK → Prop) : Prop :=
  ∀ (pins : List (Addr × Obj)) (s : Shared) (σ : St) (H : Hp) (xs : List V) (us : List Value) (Q : VK), Inv X pins σ H s → Vals xs us → r xs H Q →
    wpAny (model X.prog X.w) X.A (call f us) (EP X pins σ Q) X.xe s
def TruR (X : Cx) (r : V → Hp → (Bool → Hp → Prop) → Prop) : Prop :=
  ∀ (pins : List (Addr × Obj)) (s : Shared) (σ : St) (H : Hp) (x : V) (v : Value) (Q : Bool → Hp → Prop), Inv X pins σ H s → RelV x v → r x H Q →
    wpAny (model X.prog X.w) X.A (truthy v) (TP X pins σ Q) X.xe s
def tOp (r : R2) (ta tb : TE) : TE := fun σ H Q => ta σ H fun x H1 => tb σ H1 fun y H2 => r x y H2 Q
def tUn (r : V → Hp → VK → Prop) (ta : TE) : TE := fun σ H Q => ta σ H fun x H1 => r x H1 Q
def rI (C : Int → Int → Prop) (g : Int → Int → V) : R2 := fun x y H Q => ∃ i j, x = .int i ∧ y = .int j ∧ C i j ∧ Q (g i j) H
def rI0 (g : Int → Int → V) : R2 := fun x y H Q => ∃ i j, x = .int i ∧ y = .int j ∧ Q (g i j) H
def rU (g : Int → V) : V → Hp → VK → Prop := fun x H Q => ∃ i, x = .int i ∧ Q (g i) H
section
variable {X : Cx} {a b c : Expr} {ta tb tc : TE} {pos : Pos}
theorem binT (ha : PE X a ta) (hb : PE X b tb) {pins : List (Addr × Obj)} {s : Shared} {σ : St} {H : Hp} {R : V → V → Hp → Prop} (I : Inv X pins σ H s)
    (h : ta σ H fun x H1 => tb σ H1 fun y H2 => R x y H2) {Q : Value → Shared → Prop} {f : Value → Value → Sem Value}
    (hf : ∀ v u s2 x y H2, Inv X pins σ H2 s2 → RelV x v → RelV y u → R x y H2 → wpAny (model X.prog X.w) X.A (f v u) Q X.xe s2) :
    wpAny (model X.prog X.w) X.A (eval a X.env) (fun v s₁ => wpAny (model X.prog X.w) X.A (eval b X.env) (fun u s₂ => wpAny (model X.prog X.w) X.A (f v u) Q X.xe s₂) X.xe s₁) X.xe s := by
  refine thn (ha pins s σ H _ I h) fun v s1 ⟨x, H1, I1, r1, q1⟩ => ?_
  refine thn (hb pins s1 σ H1 _ I1 q1) fun u s2 ⟨y, H2, I2, r2, q2⟩ => ?_
  exact hf v u s2 x y H2 I2 r1 r2 q2
theorem pe_op {op : Operator} {r : R2} (ho : OpR X (binaryOp op) r) (ha : PE X a ta) (hb : PE X b tb) : PE X (.BinOp a op b pos) (tOp r ta tb) := by
  intro pins s σ H Q I h
  exact wpAny_BinOp (binT ha hb I h fun v u s2 x y H2 I2 rx ry q => ho pins s2 σ H2 x y v u Q I2 rx ry q)
theorem pe_un {op : UnaryOp} {r : V → Hp → VK → Prop} (ho : UnR X (unaryOp op) r) (ha : PE X a ta) : PE X (.UnaryOp op a pos) (tUn r ta) := by
  intro pins s σ H Q I h
  exact UnaryOp_ (thn (ha pins s σ H _ I h) fun v s1 ⟨x, H1, I1, r1, q1⟩ => ho pins s1 σ H1 x v Q I1 r1 q1)
theorem opI {f : Value → Value → Sem Value} {C : Int → Int → Prop} {g : Int → Int → Int}
    (rule : ∀ (i j : Int) (t u : Tok) (s : Shared) (Q : Value → Shared → Prop) (E : Value → Shared → Prop), C i j → Q (.int (g i j) s.toks) { s with toks := s.toks + 1 } → wpAny (model X.prog X.w) X.A (f (.int i t) (.int j u)) Q E s) :
    OpR X f (rI C fun i j => .int (g i j)) := by
  intro pins s σ H x y v u Q I rx ry h
  obtain ⟨i, j, rfl, rfl, hc, q⟩ := h
  obtain ⟨t, rfl⟩ := rx
  obtain ⟨t', rfl⟩ := ry
  exact rule i j t t' s _ _ hc ⟨.int (g i j), H, I.tok _, ⟨_, rfl⟩, q⟩
theorem opI0 {f : Value → Value → Sem Value} {g : Int → Int → Int}
    (rule : ∀ (i j : Int) (t u : Tok) (s : Shared) (Q : Value → Shared → Prop) (E : Value → Shared → Prop), Q (.int (g i j) s.toks) { s with toks := s.toks + 1 } → wpAny (model X.prog X.w) X.A (f (.int i t) (.int j u)) Q E s) :
    OpR X f (rI0 fun i j => .int (g i j)) := by
  intro pins s σ H x y v u Q I rx ry h
  obtain ⟨i, j, rfl, rfl, q⟩ := h
  obtain ⟨t, rfl⟩ := rx
  obtain ⟨t', rfl⟩ := ry
  exact rule i j t t' s _ _ ⟨.int (g i j), H, I.tok _, ⟨_, rfl⟩, q⟩
theorem opB0 {f : Value → Value → Sem Value} {g : Int → Int → Bool}
    (rule : ∀ (i j : Int) (t u : Tok) (s : Shared) (Q : Value → Shared → Prop) (E : Value → Shared → Prop), Q (.bool (g i j)) s → wpAny (model X.prog X.w) X.A (f (.int i t) (.int j u)) Q E s) :
    OpR X f (rI0 fun i j => .bl (g i j)) := by
  intro pins s σ H x y v u Q I rx ry h
  obtain ⟨i, j, rfl, rfl, q⟩ := h
  obtain ⟨t, rfl⟩ := rx
  obtain ⟨t', rfl⟩ := ry
  exact rule i j t t' s _ _ ⟨.bl (g i j), H, I, rfl, q⟩
def CDiv (i j : Int) : Prop := 0 < j ∧ j < 1073741824
def CDivN (i j : Int) : Prop := j ≠ 0 ∧ j.natAbs < 1073741824
def CPow (i j : Int) : Prop := 0 ≤ j ∧ j ≤ 1000000 ∧ i.natAbs < 2 ^ 64
def CMul (i j : Int) : Prop := (-(2 ^ 64) < i ∧ i < 2 ^ 64) ∨ (-(2 ^ 64) < j ∧ j < 2 ^ 64)
theorem CMul.ok {i j : Int} (h : CMul i j) : IntMulOk i j := by
  rcases h with ⟨h1, h2⟩ | ⟨h1, h2⟩
  · exact .of_left (intBits_le_64 h1 h2)
  · exact .of_right (intBits_le_64 h1 h2)
theorem op_add : OpR X (binaryOp .Add) (rI0 fun i j => .int (i + j)) := opI0 fun _ _ _ _ _ _ _ q => add_int q
theorem op_sub : OpR X (binaryOp .Sub) (rI0 fun i j => .int (i - j)) := opI0 fun _ _ _ _ _ _ _ q => sub_int q
theorem op_mul : OpR X (binaryOp .Mult) (rI CMul fun i j => .int (i * j)) := opI fun _ _ _ _ _ _ _ hc q => mul_int q hc.ok
theorem op_fdiv : OpR X (binaryOp .FloorDiv) (rI CDiv fun i j => .int (i / j)) := opI fun i j _ _ _ _ _ hc q => by
  have h1 : (0 : Int) < j := hc.1
  have h2 : j < 1073741824 := hc.2
  exact floordiv_int (by omega) (by rw [Int.fdiv_eq_ediv_of_nonneg i (by omega)]; exact q) (.inl (PyProof.noPylong_small (by omega)))
theorem op_mod : OpR X (binaryOp .Mod) (rI (fun _ j => 0 < j) fun i j => .int (i % j)) := opI fun i j _ _ _ _ _ hc q => by
  have h1 : (0 : Int) < j := hc
  exact mod_int' (by omega) (by rw [Int.fmod_eq_emod_of_nonneg i (by omega)]; exact q)
theorem unI {f : Value → Sem Value} {g : Int → Int}
    (rule : ∀ (i : Int) (t : Tok) (s : Shared) (Q : Value → Shared → Prop) (E : Value → Shared → Prop), Q (.int (g i) s.toks) { s with toks := s.toks + 1 } → wpAny (model X.prog X.w) X.A (f (.int i t)) Q E s) :
    UnR X f (rU fun i => .int (g i)) := by
  intro pins s σ H x v Q I rx h
  obtain ⟨i, rfl, q⟩ := h
  obtain ⟨t, rfl⟩ := rx
  exact rule i t s _ _ ⟨.int (g i), H, I.tok _, ⟨_, rfl⟩, q⟩
theorem un_neg : UnR X (unaryOp .USub) (rU fun i => .int (-i)) := unI fun _ _ _ _ _ q => neg_int q
end
def scal : V → V → Bool
  | .non, .non => true | .non, .int _ => true | .int _, .non => true | .non, .bl _ => true | .bl _, .non => true | .non, .str _ => true | .str _, .non => true
  | .int _, .int _ => true | .bl _, .bl _ => true | .str _, .str _ => true | .byt _, .byt _ => true
  | .int _, .str _ => true | .str _, .int _ => true | .bl _, .str _ => true | .str _, .bl _ => true
  | _, _ => false
def rEq : R2 := fun x y H Q => scal x y = true ∧ Q (.bl (decide (x = y))) H
def rNe : R2 := fun x y H Q => scal x y = true ∧ Q (.bl (!decide (x = y))) H
theorem dec_int {i j : Int} : decide (V.int i = V.int j) = (i == j) := by
  rw [Bool.eq_iff_iff]
  simp
theorem dec_bl {i j : Bool} : decide (V.bl i = V.bl j) = (i == j) := by
  rw [Bool.eq_iff_iff]
  simp
theorem dec_str {i j : Str} : decide (V.str i = V.str j) = (i == j) := by
  rw [Bool.eq_iff_iff]
  simp
theorem dec_byt {i j : Array UInt8} : decide (V.byt i = V.byt j) = (i.toList == j.toList) := by
  rw [Bool.eq_iff_iff]
  cases i
  cases j
  simp
section
variable {X : Cx} {a b c : Expr} {ta tb tc : TE} {pos : Pos}
theorem fin_bl {pins : List (Addr × Obj)} {σ : St} {H : Hp} {s : Shared} {Q : VK} {k k' : Bool} (I : Inv X pins σ H s) (q : Q (.bl k) H) (e : k = k') : EP X pins σ Q (.bool k') s := by
  subst e
  exact ⟨.bl k, H, I, rfl, q⟩
theorem op_eq : OpR X (compareOp .Eq) rEq := by
  intro pins s σ H x y v u Q I rx ry h
  obtain ⟨hs, q⟩ := h
  cases x with
  | non =>
    cases rx
    cases y with
    | non => cases ry; exact PySem.EqNone.eq_none_none (fin_bl I q (by simp))
    | bl j => cases ry; exact PySem.EqNone.eq_none_bool (fin_bl I q (by simp))
    | int j => obtain ⟨t', rfl⟩ := ry; exact PySem.EqNone.eq_none_int (fin_bl I q (by simp))
    | str j => obtain ⟨t', rfl⟩ := ry; exact PySem.EqNone.eq_none_str (fin_bl I q (by simp))
    | _ => exact absurd (show false = true from hs) Bool.false_ne_true
  | bl i =>
    cases rx
    cases y with
    | non => cases ry; exact PySem.EqNone.eq_bool_none (fin_bl I q (by simp))
    | bl j => cases ry; exact eq_bool (fin_bl I q dec_bl)
    | str j => obtain ⟨t', rfl⟩ := ry; exact PySem.EqMixed.eq_bool_str (fin_bl I q (by simp))
    | _ => exact absurd (show false = true from hs) Bool.false_ne_true
  | int i =>
    obtain ⟨t, rfl⟩ := rx
    cases y with
    | non => cases ry; exact PySem.EqNone.eq_int_none (fin_bl I q (by simp))
    | int j => obtain ⟨t', rfl⟩ := ry; exact eq_int (fin_bl I q dec_int)
    | str j => obtain ⟨t', rfl⟩ := ry; exact PySem.EqMixed.eq_int_str (fin_bl I q (by simp))
    | _ => exact absurd (show false = true from hs) Bool.false_ne_true
  | str i =>
    obtain ⟨t, rfl⟩ := rx
    cases y with
    | non => cases ry; exact PySem.EqNone.eq_str_none (fin_bl I q (by simp))
    | bl j => cases ry; exact PySem.EqMixed.eq_str_bool (fin_bl I q (by simp))
    | int j => obtain ⟨t', rfl⟩ := ry; exact PySem.EqMixed.eq_str_int (fin_bl I q (by simp))
    | str j => obtain ⟨t', rfl⟩ := ry; exact eq_str (fin_bl I q dec_str)
    | _ => exact absurd (show false = true from hs) Bool.false_ne_true
  | byt i =>
    obtain ⟨t, rfl⟩ := rx
    cases y with
    | byt j => obtain ⟨t', rfl⟩ := ry; exact PySem.W.eq_bytes (fin_bl I q dec_byt)
    | _ => exact absurd (show false = true from hs) Bool.false_ne_true
  | _ => cases y <;> exact absurd (show false = true from hs) Bool.false_ne_true
theorem op_ne : OpR X (compareOp .NotEq) rNe := by
  intro pins s σ H x y v u Q I rx ry h
  obtain ⟨hs, q⟩ := h
  cases x with
  | non =>
    cases rx
    cases y with
    | non => cases ry; exact PySem.EqNone.ne_none_none (fin_bl I q (by simp))
    | bl j => cases ry; exact PySem.EqNone.ne_none_bool (fin_bl I q (by simp))
    | int j => obtain ⟨t', rfl⟩ := ry; exact PySem.EqNone.ne_none_int (fin_bl I q (by simp))
    | str j => obtain ⟨t', rfl⟩ := ry; exact PySem.EqNone.ne_none_str (fin_bl I q (by simp))
    | _ => exact absurd (show false = true from hs) Bool.false_ne_true
  | bl i =>
    cases rx
    cases y with
    | non => cases ry; exact PySem.EqNone.ne_bool_none (fin_bl I q (by simp))
    | bl j => cases ry; exact ne_bool (fin_bl I q (congrArg not dec_bl))
    | str j => obtain ⟨t', rfl⟩ := ry; exact PySem.EqMixed.ne_bool_str (fin_bl I q (by simp))
    | _ => exact absurd (show false = true from hs) Bool.false_ne_true
  | int i =>
    obtain ⟨t, rfl⟩ := rx
    cases y with
    | non => cases ry; exact PySem.EqNone.ne_int_none (fin_bl I q (by simp))
    | int j => obtain ⟨t', rfl⟩ := ry; exact ne_int (fin_bl I q (congrArg not dec_int))
    | str j => obtain ⟨t', rfl⟩ := ry; exact PySem.EqMixed.ne_int_str (fin_bl I q (by simp))
    | _ => exact absurd (show false = true from hs) Bool.false_ne_true
  | str i =>
    obtain ⟨t, rfl⟩ := rx
    cases y with
    | non => cases ry; exact PySem.EqNone.ne_str_none (fin_bl I q (by simp))
    | bl j => cases ry; exact PySem.EqMixed.ne_str_bool (fin_bl I q (by simp))
    | int j => obtain ⟨t', rfl⟩ := ry; exact PySem.EqMixed.ne_str_int (fin_bl I q (by simp))
    | str j => obtain ⟨t', rfl⟩ := ry; exact ne_str (fin_bl I q (congrArg not dec_str))
    | _ => exact absurd (show false = true from hs) Bool.false_ne_true
  | byt i =>
    obtain ⟨t, rfl⟩ := rx
    cases y with
    | byt j => obtain ⟨t', rfl⟩ := ry; exact PySem.W.ne_bytes (fin_bl I q (congrArg not dec_byt))
    | _ => exact absurd (show false = true from hs) Bool.false_ne_true
  | _ => cases y <;> exact absurd (show false = true from hs) Bool.false_ne_true
theorem op_lt : OpR X (compareOp .Lt) (rI0 fun i j => .bl (decide (i < j))) := opB0 fun _ _ _ _ _ _ _ q => lt_int q
theorem op_gt : OpR X (compareOp .Gt) (rI0 fun i j => .bl (decide (j < i))) := opB0 fun _ _ _ _ _ _ _ q => gt_int q
theorem op_ge : OpR X (compareOp .GtE) (rI0 fun i j => .bl (decide (j ≤ i))) := opB0 fun _ _ _ _ _ _ _ q => ge_int q
theorem op_isN : OpR X (compareOp .Is) (fun x y H Q => y = .non ∧ Q (.bl (decide (x = .non))) H) := by
  intro pins s σ H x y v u Q I rx ry h
  obtain ⟨rfl, q⟩ := h
  cases ry
  refine is_none_gen (fin_bl I q ?_)
  cases x <;> first
    | (cases rx; rfl)
    | (obtain ⟨t, rfl⟩ := rx; rfl)
theorem op_notN : OpR X (compareOp .IsNot) (fun x y H Q => y = .non ∧ Q (.bl (!decide (x = .non))) H) := by
  intro pins s σ H x y v u Q I rx ry h
  obtain ⟨rfl, q⟩ := h
  cases ry
  refine isnot_none_gen (fin_bl I q ?_)
  cases x <;> first
    | (cases rx; rfl)
    | (obtain ⟨t, rfl⟩ := rx; rfl)
def isObj : HO → Bool
  | .lst _ => true
  | .ins _ _ _ => true
  | _ => false
theorem nomark (b : Expr) {op : CmpOp} (h : op ≠ .In := by decide) (h2 : op ≠ .NotIn := by decide) : behindInMarks op b = false := by
  have e1 : (op == CmpOp.In) = false := by cases op <;> first | rfl | exact absurd rfl h
  have e2 : (op == CmpOp.NotIn) = false := by cases op <;> first | rfl | exact absurd rfl h2
  cases b <;> simp [behindInMarks, e1, e2]
theorem pe_cmpR {op : CmpOp} {r : R2} (ho : OpR X (compareOp op) r) (ha : PE X a ta) (hb : PE X b tb) (hm : behindInMarks op b = false) : PE X (.Compare a [op] [b] pos) (tOp r ta tb) := by
  intro pins s σ H Q I h
  exact wpAny_Compare1 (binT ha hb I h fun v u s2 x y H2 I2 rx ry q => ho pins s2 σ H2 x y v u Q I2 rx ry q) hm
def tTest (t : TE) : TT := fun σ H Q => t σ H fun x H' => ∃ k, x = .bl k ∧ Q k H'
theorem pt_cmpR {op : CmpOp} {r : R2} (ho : OpR X (compareOp op) r) (ha : PE X a ta) (hb : PE X b tb) (hm : behindInMarks op b = false) : PT X (.Compare a [op] [b] pos) (tTest (tOp r ta tb)) := by
  intro pins s σ H Q I h
  refine wpAny_isTrue_Compare1 (thn (ha pins s σ H _ I h) fun v s1 ⟨x, H1, I1, r1, q1⟩ => thn (hb pins s1 σ H1 _ I1 q1) fun u s2 ⟨y, H2, I2, r2, q2⟩ =>
    thn (ho pins s2 σ H2 x y v u _ I2 r1 r2 q2) fun c s3 ⟨z, H3, I3, r3, k, e, q3⟩ => ?_) hm
  subst e
  cases r3
  exact wpAny_truthy_bool ⟨H3, I3, q3⟩
def tChain (r r' : R2) (ta tb tc : TE) : TE := fun σ H Q => ta σ H fun x H1 => tb σ H1 fun y H2 => r x y H2 fun z H3 => ∃ k, z = .bl k ∧
  (if k = true then tc σ H3 fun w' H4 => r' y w' H4 Q else Q (.bl false) H3)
def TruV (K : PySem.W.Frag) (x : V) (H : Hp) (k : Bool) : Prop :=
  match x with
  | .non => k = false
  | .bl b => k = b
  | .int i => k = (i != 0)
  | .str y => y.length ≤ sizeLine ∧ k = ((y.length : Int) != 0)
  | .byt y => y.size ≤ sizeLine ∧ k = ((y.size : Int) != 0)
  | .ref p => (∃ xs, SqL K H p xs ∧ k = !xs.isEmpty) ∨ (∃ xs, SqT K H p xs ∧ k = !xs.isEmpty) ∨ ∃ kvs, H p = some (.dK kvs) ∧ k = !kvs.isEmpty
  | _ => False
theorem isEmpty_kv {κ : Type} {kvs : List (κ × V)} {vs : List (κ × Value)} (r : KV kvs vs) : (!vs.isEmpty) = !kvs.isEmpty := by
  cases r <;> rfl
theorem isEmpty_of {xs : List V} {its : List Value} (r : Vals xs its) : (!its.toArray.isEmpty) = !xs.isEmpty := by
  cases r <;> simp
theorem line63 : (sizeLine : Nat) < 2 ^ 63 := by rw [sizeLine_eq]; decide
theorem tru_ok : TruR X (fun x H Q => ∃ k, TruV X.K x H k ∧ Q k H) := by
  intro pins s σ H x v Q I rx h
  obtain ⟨k, e, q⟩ := h
  have hl := line63
  have hs : sizeLine = 16777216 := sizeLine_eq
  cases x with
  | non =>
    cases rx
    have e' : k = false := e
    subst e'
    exact truthy_none ⟨H, I, q⟩
  | bl b =>
    cases rx
    have e' : k = b := e
    subst e'
    exact wpAny_truthy_bool ⟨H, I, q⟩
  | int i =>
    obtain ⟨t, rfl⟩ := rx
    have e' : k = (i != 0) := e
    subst e'
    exact PySem.P.truthy_int ⟨H, I, q⟩
  | str y =>
    obtain ⟨t, rfl⟩ := rx
    obtain ⟨hy, e'⟩ : y.length ≤ sizeLine ∧ k = ((y.length : Int) != 0) := e
    subst e'
    exact PySem.P.truthy_str (by omega) ⟨H, I.tok _, q⟩
  | byt y =>
    obtain ⟨t, rfl⟩ := rx
    obtain ⟨hy, e'⟩ : y.size ≤ sizeLine ∧ k = ((y.size : Int) != 0) := e
    subst e'
    exact PySem.W.truthy_bytes (by omega) ⟨H, I.tok _, q⟩
  | ref p =>
    cases rx
    have e' : (∃ xs, SqL X.K H p xs ∧ k = !xs.isEmpty) ∨ (∃ xs, SqT X.K H p xs ∧ k = !xs.isEmpty) ∨ ∃ kvs, H p = some (.dK kvs) ∧ k = !kvs.isEmpty := e
    rcases e' with ⟨xs, hx, e'⟩ | ⟨xs, hx, e'⟩ | ⟨kvs, hx, e'⟩
    · subst e'
      obtain ⟨its, r, pl, hz⟩ := I.list hx
      have hlen := r.length
      exact wpAny_truthy_list pl.isList (by simp only [List.size_toArray]; omega) ⟨H, I.tok _, by rw [isEmpty_of r]; exact q⟩
    · subst e'
      obtain ⟨its, r, pl, hz⟩ := I.tuple hx
      have hlen := r.length
      exact truthy_tuple pl (by simp only [List.size_toArray]; omega) ⟨H, I.tok _, by rw [isEmpty_of r]; exact q⟩
    · subst e'
      obtain ⟨hz, hS, vs, r, m⟩ : kvs.length ≤ sizeLine ∧ (p == sysModules) = false ∧ ∃ vs, KV kvs vs ∧ s.heap.DictOf (mixKind X.prog X.w) p vs := I.hok p _ hx
      have hlen : kvs.length = vs.length := Paired.length r
      exact wpAny_truthy_dict hS m (by omega) ⟨H, I.tok _, by rw [isEmpty_kv r]; exact q⟩
  | _ => exact (show False from e).elim
theorem pt_truth (ha : PE X a ta) (he : ∀ whole, isTrue a X.env whole = (do let v ← whole; standAt a.pos; holding [v] (truthy v))) :
    PT X a (fun σ H Q => ta σ H fun x H' => ∃ k, TruV X.K x H' k ∧ Q k H') := by
  intro pins s σ H Q I h
  exact isTrue_plain (thn (ha pins s σ H _ I h) fun v s1 ⟨x, H1, I1, r1, q1⟩ => tru_ok pins s1 σ H1 x v Q I1 r1 q1) (he _)
theorem op_add_str : OpR X (binaryOp .Add) (fun x y H Q => ∃ i j, x = .str i ∧ y = .str j ∧ i.length + j.length ≤ sizeLine ∧ Q (.str (i ++ j)) H) := by
  intro pins s σ H x y v u Q I rx ry h
  obtain ⟨i, j, rfl, rfl, hz, q⟩ := h
  obtain ⟨t, rfl⟩ := rx
  obtain ⟨t', rfl⟩ := ry
  exact add_str (fun t' tk => ⟨.str (i ++ j), H, I.tok _, ⟨_, rfl⟩, q⟩) hz
def PlainIxT (b : Expr) : Prop := ∀ o i, subscripted b false o i = operate [o, i] (getItem o i)
theorem vals1 {x : V} {us : List Value} (r : Vals [x] us) : ∃ u, us = [u] ∧ RelV x u := by
  cases r with
  | cons r1 r2 => cases r2; exact ⟨_, rfl, r1⟩
theorem vals2 {x y : V} {us : List Value} (r : Vals [x, y] us) : ∃ u w', us = [u, w'] ∧ RelV x u ∧ RelV y w' := by
  cases r with
  | cons r1 r2 =>
    cases r2 with
    | cons r3 r4 => cases r4; exact ⟨_, _, rfl, r1, r3⟩
theorem call_max2 (hc : X.calm = true) : CallR X (.builtin "max") (fun xs H Q => ∃ i j, xs = [.int i, .int j] ∧ Q (.int (if j > i then j else i)) H) := by
  intro pins s σ H xs us Q I r h
  obtain ⟨i, j, rfl, q⟩ := h
  obtain ⟨u, w', rfl, ⟨t, rfl⟩, ⟨t', rfl⟩⟩ := vals2 r
  refine max_two_ints (I.ok.hd hc) fun h' tk k => ⟨_, H, I.kept k, ?_, q⟩
  by_cases hj : j > i
  · rw [if_pos hj, if_pos hj]; exact ⟨_, rfl⟩
  · rw [if_neg hj, if_neg hj]; exact ⟨_, rfl⟩
theorem call_int1 : CallR X (.type "int") (fun xs H Q => (∃ i, xs = [.int i] ∧ Q (.int i) H) ∨ ∃ k, xs = [.bl k] ∧ Q (.int (if k then 1 else 0)) H) := by
  intro pins s σ H xs us Q I r h
  rcases h with ⟨i, rfl, q⟩ | ⟨k, rfl, q⟩
  · obtain ⟨u, rfl, t, rfl⟩ := vals1 r
    exact call_int_int ⟨.int i, H, I, ⟨_, rfl⟩, q⟩
  · obtain ⟨u, rfl, r1⟩ := vals1 r
    cases r1
    exact call_int_bool ⟨.int (if k then 1 else 0), H, I.tok _, ⟨_, rfl⟩, q⟩
def LenV (K : PySem.W.Frag) (x : V) (H : Hp) (n : Nat) : Prop :=
  match x with
  | .str y => y.length ≤ sizeLine ∧ n = y.length
  | .byt y => y.size ≤ sizeLine ∧ n = y.size
  | .ref p => (∃ xs, SqL K H p xs ∧ n = xs.length) ∨ ∃ xs, SqT K H p xs ∧ n = xs.length
  | _ => False
end
end L2
namespace L2
open PySem PySem.Spec PyProof.Rows
structure ObjM (h : Heap) (x dx C : Addr) (mA : Str → Option Value) : Prop where
  obj : h.get? x = some (PySem.W.instObj C dx)
  ns : h.Ns1 dx mA
  ne : dx ≠ x
theorem lookIn_ns {h : Heap} {dx : Addr} {mA : Str → Option Value} (n : h.Ns1 dx mA) : ∃ od, h.get? dx = some od ∧ ∀ name, PySem.W.lookIn name od = some (mA name) := by
  obtain ⟨o, es, ep, ho, hd, hk, _, hm⟩ := n
  refine ⟨o, ho, fun name => ?_⟩
  have e := hm name
  unfold nsFind findBy at e
  rw [← Array.find?_toList] at e
  unfold PySem.W.lookIn
  rw [hd]
  dsimp only
  split
  · rename_i y q
    rw [q] at e
    exact congrArg some e
  · rename_i q
    rw [q] at e
    have a : es.toList.any (·.refKey) = false := by
      rw [List.any_eq_false]
      intro y hy
      obtain ⟨z, t, hkey⟩ := hk y (Array.mem_toList_iff.mp hy)
      simp [DictEntry.refKey, hkey]
    have a' : ¬ es.toList.any (·.refKey) = true := by rw [a]; exact Bool.false_ne_true
    rw [if_neg a']
    exact congrArg some e
theorem ObjM.look {h : Heap} {x dx C : Addr} {mA : Str → Option Value} (I : ObjM h x dx C mA) : ∃ od, PySem.W.InstAt h x (PySem.W.instObj C dx) C (some od) ∧ ∀ name, PySem.W.lookIn name od = some (mA name) :=
  let ⟨od, ho, hl⟩ := lookIn_ns I.ns
  ⟨od, ⟨I.obj, rfl, rfl, ho⟩, hl⟩
section
variable {prog : Program} {w : World} {A : Around} {E : Value → Shared → Prop} {s : Shared} {K : PySem.W.Frag} {x dx C f : Addr} {mA : Str → Option Value} {name : Str} {v : Value}
end
def putF (f : Str) (v : V) : List (Str × V) → List (Str × V)
  | [] => [(f, v)]
  | (g, x) :: r => if g = f then (g, v) :: r else (g, x) :: putF f v r
section
variable {P : Program} {w : World} {H H' : Hp} {h h' : Heap} {a C dx : Addr} {fs fs' : List (Str × V)}
theorem ins_get (hok : HOk P w H h) (e : H a = some (.ins C dx fs)) : ∃ mA, ObjM h a dx C mA ∧ (∀ f, RelO (fs.lookup f) (mA f)) ∧ PySem.Within mA (fs.map (·.1)) ∧ fs.length ≤ 1000 ∧ H dx = some (.own a) := by
  obtain ⟨d, z, ne, ob, mA, n, r, q⟩ := (show ObjOk P w H h a (.ins C dx fs) from hok a _ e)
  exact ⟨mA, ⟨ob, n, ne⟩, r, q, z, d⟩
end
structure Cls (K : PySem.W.Frag) (C : Addr) : Prop where
  pg : PySem.W.plainGet K C Str.empty = true
  hd : PySem.W.hasDictIn K C = true
  po : PySem.W.plainOver K C = true
  sa : PySem.W.findIn K (.ref C) "__setattr__" = some (some (.builtin "object.__setattr__"))
theorem Cls.get {K : PySem.W.Frag} {C : Addr} (c : Cls K C) (f : Str) : PySem.W.plainGet K C f = true := c.pg
def NoAttr (K : PySem.W.Frag) (C : Addr) (f : Str) : Prop := PySem.W.findIn K (.ref C) f = some none
structure Con (K : PySem.W.Frag) (C : Addr) (f : Str) (v : V) (u : Value) : Prop where
  at_ : PySem.W.findIn K (.ref C) f = some (some u)
  rel : RelV v u
  get : PySem.W.specialIn K u "__get__" = some none
  cp : PySem.W.copiedNames.contains f = false
structure Meth (K : PySem.W.Frag) (C : Addr) (m : Str) (f : Addr) : Prop where
  at_ : PySem.W.findIn K (.ref C) m = some (some (.ref f))
  fn : PySem.W.isFn K (.ref f) = true
  kp : PySem.W.keepIn K (.ref f) = true
section
variable {X : Cx} {pins : List (Addr × Obj)} {σ : St} {H : Hp} {s : Shared} {a C dx : Addr} {fs : List (Str × V)} {f : Str} {v : V} {A : Around} {E : Value → Shared → Prop}
end
def tFld (K : PySem.W.Frag) (ta : TE) (f : Str) : TE := fun σ H Q => ta σ H fun x H1 => ∃ a C dx fs v, x = .ref a ∧ H1 a = some (.ins C dx fs) ∧ Cls K C ∧ NoAttr K C f ∧ fs.lookup f = some v ∧ Q v H1
def tCon (K : PySem.W.Frag) (ta : TE) (f : Str) : TE := fun σ H Q => ta σ H fun x H1 => ∃ a C dx fs v u, x = .ref a ∧ H1 a = some (.ins C dx fs) ∧ Cls K C ∧ Con K C f v u ∧ fs.lookup f = none ∧ Q v H1
def sFld (K : PySem.W.Frag) (ta tv : TE) (f : Str) : TS := fun D σ H => tv σ H fun y H1 => ta σ H1 fun x H2 => ∃ a C dx fs, x = .ref a ∧ H2 a = some (.ins C dx fs) ∧ Cls K C ∧ NoAttr K C f ∧ fs.length < 1000 ∧
  D.nx σ (upd H2 a (.ins C dx (putF f y fs)))
def InOp (X : Cx) (op : Operator) (rd : V → V → Hp → VK → Prop) : Prop :=
  ∀ (pins : List (Addr × Obj)) (s : Shared) (σ : St) (H : Hp) (x y : V) (u v : Value) (Q : VK), Inv X pins σ H s → RelV x u → RelV y v → rd x y H Q → wpAny (model X.prog X.w) X.A (inplaceOp op u v) (EP X pins σ Q) X.xe s
def sFldAug (K : PySem.W.Frag) (ta tv : TE) (rd : V → V → Hp → VK → Prop) (f : Str) : TS := fun D σ H => ta σ H fun x H1 => ∃ a C dx fs v, x = .ref a ∧ H1 a = some (.ins C dx fs) ∧ Cls K C ∧ NoAttr K C f ∧ fs.lookup f = some v ∧
  tv σ H1 fun y H2 => rd v y H2 fun z H3 => ∃ dx' fs', H3 a = some (.ins C dx' fs') ∧ fs'.length < 1000 ∧ D.nx σ (upd H3 a (.ins C dx' (putF f z fs')))
section
variable {X : Cx} {o e value : Expr} {f : Str} {pos pos' tpos : Pos} {ta tv : TE}
def rAdd : V → V → Hp → VK → Prop := fun x y H Q => ∃ i j, x = .int i ∧ y = .int j ∧ Q (.int (i + j)) H
def rSub : V → V → Hp → VK → Prop := fun x y H Q => ∃ i j, x = .int i ∧ y = .int j ∧ Q (.int (i - j)) H
end
section
variable {X : Cx} {pins : List (Addr × Obj)} {σ : St} {H : Hp} {s : Shared} {A : Around} {E : Value → Shared → Prop} {Q : Value → Shared → Prop} {c : Value} {b : Bool}
inductive TyOf (K : PySem.W.Frag) (H : Hp) : V → Value → Prop where
  | non : TyOf K H .non (.type "NoneType")
  | bl (x : Bool) : TyOf K H (.bl x) (.type "bool")
  | int (i : Int) : TyOf K H (.int i) (.type "int")
  | str (x : Str) : TyOf K H (.str x) (.type "str")
  | flt (x : UInt64) : TyOf K H (.flt x) (.type "float")
  | lst {a : Addr} {xs : List V} (e : H a = some (.lst xs)) : TyOf K H (.ref a) (.type "list")
  | frz {a : Addr} {o : Obj} {xs : List V} (e : H a = some (.frz o (.lst xs))) : TyOf K H (.ref a) (.type "list")
  | tup {a : Addr} {xs : List V} (e : H a = some (.tup xs)) : TyOf K H (.ref a) (.type "tuple")
  | dK {a : Addr} {kvs : List (Key × V)} (e : H a = some (.dK kvs)) : TyOf K H (.ref a) (.type "dict")
  | dT {a : Addr} {kvs : List (List Key × V)} (e : H a = some (.dT kvs)) : TyOf K H (.ref a) (.type "dict")
  | ins {a C dx : Addr} {fs : List (Str × V)} (e : H a = some (.ins C dx fs)) (cl : Cls K C) (ha : PySem.W.findIn K (.ref C) "__class__" = some (some (.builtin "object.__class__")))
      (hn : PySem.W.specialIn K (.builtin "object.__class__") "__get__" = some (some (.builtin "getset_descriptor.__get__"))) (htk : PySem.W.takesIn K (.builtin "object.__class__") = some true)
      (hm : PySem.W.mroIn K C (.type "object") = some true) : TyOf K H (.ref a) (.ref C)
theorem isinst_ok {x : V} {u t : Value} (I : Inv X pins σ H s) (rx : RelV x u) (ty : TyOf X.K H x t) (e : PySem.W.kitOne X.K t c = some b) (h : ∀ tk, Q (.bool b) { s with toks := tk }) :
    wpAny (model X.prog X.w) A (call (.builtin "isinstance") [u, c]) Q E s := by
  cases ty with
  | non => cases (show u = Value.none from rx); exact PySem.W.kia_one PySem.W.kitx_none I.kIn True.intro e (fun z => nomatch z) h
  | bl y => cases (show u = Value.bool y from rx); exact PySem.W.kia_one PySem.W.kitx_bool I.kIn True.intro e (fun z => nomatch z) h
  | int i => obtain ⟨t, q⟩ := (show ∃ t, u = Value.int i t from rx); cases q; exact PySem.W.kia_one PySem.W.kitx_int I.kIn True.intro e (fun z => nomatch z) h
  | str y => obtain ⟨t, q⟩ := (show ∃ t, u = Value.str y t from rx); cases q; exact PySem.W.kia_one PySem.W.kitx_str I.kIn True.intro e (fun z => nomatch z) h
  | flt y => obtain ⟨t, q⟩ := (show ∃ t, u = Value.float y t from rx); cases q; exact PySem.W.kia_one PySem.W.kitx_float I.kIn True.intro e (fun z => nomatch z) h
  | @lst a xs ea =>
    cases (show u = Value.ref a from rx)
    obtain ⟨_, _, n, _, h1⟩ := (show ObjOk X.prog X.w H s.heap a (.lst xs) from I.hok a _ ea)
    exact PySem.W.kia_one PySem.W.kitx_list I.kIn ⟨_, h1, rfl⟩ e (fun z => nomatch z) h
  | @frz a ob xs ea =>
    cases (show u = Value.ref a from rx)
    obtain ⟨_, _, _, n, _, h1⟩ := (show ObjOk X.prog X.w H s.heap a (.frz ob (.lst xs)) from I.hok a _ ea)
    exact PySem.W.kia_one PySem.W.kitx_list I.kIn ⟨_, h1, rfl⟩ e (fun z => nomatch z) h
  | @tup a xs ea =>
    cases (show u = Value.ref a from rx)
    obtain ⟨_, _, _, p⟩ := (show ObjOk X.prog X.w H s.heap a (.tup xs) from I.hok a _ ea)
    obtain ⟨o, h1, h2, _⟩ := p
    exact PySem.W.kia_one PySem.W.kitx_tuple I.kIn ⟨o, h1, h2⟩ e (fun z => nomatch z) h
  | @dK a kvs ea =>
    cases (show u = Value.ref a from rx)
    obtain ⟨_, _, vs, _, p⟩ := (show ObjOk X.prog X.w H s.heap a (.dK kvs) from I.hok a _ ea)
    obtain ⟨o, es, ep, h1, h2, _⟩ := p
    exact PySem.W.kia_one PySem.W.kitx_dict I.kIn ⟨o, h1, h2.1⟩ e (fun z => nomatch z) h
  | @dT a kvs ea =>
    cases (show u = Value.ref a from rx)
    obtain ⟨_, _, xs, _, o, es, ep, h1, h2, _⟩ := (show ObjOk X.prog X.w H s.heap a (.dT kvs) from I.hok a _ ea)
    exact PySem.W.kia_one PySem.W.kitx_dict I.kIn ⟨o, h1, h2.1⟩ e (fun z => nomatch z) h
  | @ins a C dx fs ea cl ha hn htk hm =>
    cases (show u = Value.ref a from rx)
    obtain ⟨mA, O, _⟩ := ins_get I.hok ea
    obtain ⟨od, J, _⟩ := O.look
    exact PySem.W.kia_one (PySem.W.kitx_own (cl.get _) cl.hd ha hn htk hm) I.kIn J e (fun z => nomatch z) h
end
end L2
namespace L2
open PySem PySem.Spec PyProof.Rows
structure Room (k : Nat) (A : Around) : Prop where
  hd : A.handled = none
  dp : A.depth + 3 * k + 5 < recursionLimit
  un : A.units + 16 * k + 200 < cLine
  gd : A.guards = some []
theorem Room.mono {j k : Nat} {A : Around} (r : Room k A) (h : j ≤ k) : Room j A := ⟨r.hd, by have := r.dp; omega, by have := r.un; omega, r.gd⟩
theorem Room.deeper {k : Nat} {A : Around} (r : Room (k + 1) A) (env : Env) : Room k (A.deeper env) :=
  ⟨r.hd, by have := r.dp; show A.depth + 1 + 3 * k + 5 < _; omega, by have := r.un; show A.units + 3 + 16 * k + 200 < _; omega, r.gd⟩
theorem Room.depth {k : Nat} {A : Around} (r : Room k A) : A.depth < recursionLimit := by have := r.dp; omega
theorem Room.units0 {k : Nat} {A : Around} (r : Room k A) : A.units < cLine := by have := r.un; omega
def tNil : TA := fun _ H Q => Q [] H
def tCons (ta : TE) (tr : TA) : TA := fun σ H Q => ta σ H fun x H1 => tr σ H1 fun xs H2 => Q (x :: xs) H2
section
variable {X : Cx} {e : Expr} {es : List Expr} {te : TE} {t : TA} {pos : Pos}
theorem pa_nil : PA X [] tNil := fun _ _ _ _ H Q I h => Calls.spliced_nil ⟨[], H, I, .nil, h⟩
theorem pa_cons (ha : PE X e te) (hr : PA X es t) (hs : starEach (e :: es) X.env = (false, eval e X.env) :: starEach es X.env := by rfl) : PA X (e :: es) (tCons te t) := by
  intro pos pins s σ H Q I h
  rw [hs]
  show wpAny _ _ (spliced ((false, eval e X.env) :: backTo pos (starEach es X.env))) _ _ s
  refine Calls.spliced_cons (thn (ha pins s σ H _ I h) fun u s1 ⟨x, H1, I1, r1, q1⟩ => ?_)
  exact thn (hr pos pins s1 σ H1 _ I1 q1) fun us s2 ⟨xs, H2, I2, r2, q2⟩ => ⟨x :: xs, H2, I2, .cons r1 r2, q2⟩
def tTup (t : TA) : TE := fun σ H Q => t σ H fun xs H1 => xs.length ≤ sizeLine ∧ ∀ p, H1 p = none → Q (.ref p) (upd H1 p (.tup xs))
def tLst (t : TA) : TE := fun σ H Q => t σ H fun xs H1 => xs.length ≤ sizeLine ∧ ∀ p, H1 p = none → Q (.ref p) (upd H1 p (.lst xs))
theorem pe_tup {x1} (h : PA X es t) : PE X (.Tuple es x1 pos) (tTup t) := by
  intro pins s σ H Q I hq
  refine wpAny_Tuple_spliced (thn (h pos pins s σ H _ I hq) fun us s1 ⟨xs, H1, I1, r, z, q⟩ => ⟨by rw [← r.length]; exact z, ?_⟩)
  have hf : H1 s1.heap.objs.size = none := I1.hok.fresh (Nat.le_refl _)
  refine ⟨.ref s1.heap.objs.size, upd H1 s1.heap.objs.size (.tup xs), I1.laid (t' := s1.toks) (fun b u e => Heap.get?_push_of_some _ e) (Nat.le_refl _) ?_, rfl, q _ hf⟩
  exact ⟨z, us, r, ⟨_, Heap.get?_push_size _ rfl, rfl, ⟨_, rfl⟩, rfl⟩⟩
theorem pe_lst (h : PA X es t) : PE X (.List es pos) (tLst t) := by
  intro pins s σ H Q I hq
  refine wpAny_List_spliced (thn (h pos pins s σ H _ I hq) fun us s1 ⟨xs, H1, I1, r, z, q⟩ => ⟨by rw [← r.length]; exact z, ?_⟩)
  have hf : H1 s1.heap.objs.size = none := I1.hok.fresh (Nat.le_refl _)
  refine ⟨.ref s1.heap.objs.size, upd H1 s1.heap.objs.size (.lst xs), I1.laid (t' := s1.toks) (fun b u e => Heap.get?_push_of_some _ e) (Nat.le_refl _) ?_, rfl, q _ hf⟩
  exact ⟨z, us, 0, r, Heap.get?_push_size _ rfl⟩
end
abbrev Sp := List V → Hp → VK → XK → Prop
abbrev CXT := List Env → Hp → Shared → XK → Value → Shared → Prop
structure Env0 (P : Program) (w : World) (K : PySem.W.Frag) (mg : Str → Option Value) (base : Heap) (A : Around) (outer : List Env) (s : Shared) (H : Hp) : Prop where
  frames : A.frames = some outer
  mod : Mod K mg base
  bs : ∀ b o, base.get? b = some o → s.heap.get? b = some o ∧ H b = none
  bsz : base.objs.size ≤ s.heap.objs.size
  funs : s.heap.FunFrames base outer
  frf : ∀ b ∈ frs outer, H b = none
  hok : HOk P w H s.heap
  bare : AllBare s.gens
def CE (outer : List Env) (P : Program) (w : World) (H : Hp) (s : Shared) (Q : VK) (u : Value) (s' : Shared) : Prop :=
  ∃ v H', s'.os = s.os ∧ AllBare s'.gens ∧ Un (frs outer) [] H H' s.heap s'.heap ∧ HOk P w H' s'.heap ∧ RelV v u ∧ Q v H'
def CR (CX : CXT) (outer : List Env) (P : Program) (w : World) (H : Hp) (s : Shared) (Q : VK) (E : XK) (r : Result) (s' : Shared) : Prop :=
  match r with
  | .ok (.ret u) => CE outer P w H s Q u s'
  | .ok _ => False
  | .error e => CX outer H s E e s'
structure FnOk (P : Program) (w : World) (K : PySem.W.Frag) (mg : Str → Option Value) (base : Heap) (CX : CXT) (k : Nat) (f : Addr) (fd : FuncData) (ps : List Str) (sp : Sp) : Prop where
  len : ∀ vs H Q E, sp vs H Q E → vs.length = ps.length
  run : ∀ (A : Around) (outer : List Env) (s : Shared) (H : Hp) (args : Args) (us : List Value) (vs : List V) (Q : VK) (E : XK), Room k A → Env0 P w K mg base A outer s H → BindsTo s fd args (ps.zip us) → Vals vs us → sp vs H Q E →
    codeAny (model P w) A (.call (.ref f) args) (CR CX outer P w H s Q E) s
section
variable {X : Cx} {pins : List (Addr × Obj)} {σ : St} {H : Hp} {s s' : Shared}
theorem Inv.env0 (I : Inv X pins σ H s) : Env0 X.prog X.w X.K X.mg X.base X.A X.stack s H :=
  ⟨I.ok.frames, I.ok.mod, I.bs, Nat.le_trans I.ok.bsz I.sz, I.stack, I.stkFree, I.hok, I.bare⟩
theorem Inv.after {Q : VK} {u : Value} (I : Inv X pins σ H s) (h : CE X.stack X.prog X.w H s Q u s') : EP X pins σ Q u s' := by
  obtain ⟨v, H', os, bare, un, hok, r, q⟩ := h
  obtain ⟨hh, g, d, t, os'⟩ := s'
  obtain rfl : os' = s.os := os
  exact ⟨v, H', I.call (h' := hh) (g' := g) (d' := d) (t' := t) (ch := []) un hok bare (fun b z => absurd z (by simp)), r, q⟩
end
def tCall (sp : Sp) (dvs : List V) (E : XK) (t : TA) : TE := fun σ H Q => t σ H fun vs H1 => sp (vs ++ dvs) H1 Q E
def tMeth (C : Addr) (m : Str) (sp : Sp) (dvs : List V) (E : XK) (ta : TE) (t : TA) : TE := fun σ H Q => ta σ H fun x H1 => ∃ a dx fs, x = .ref a ∧ H1 a = some (.ins C dx fs) ∧ fs.lookup m = none ∧
  t σ H1 fun vs H2 => sp (x :: (vs ++ dvs)) H2 Q E
def tMake (C : Addr) (sp : Sp) (dvs : List V) (E : XK) (t : TA) : TE := fun σ H Q => t σ H fun vs H1 => ∀ x dx, H1 x = none → H1 dx = none → dx ≠ x →
  sp (.ref x :: (vs ++ dvs)) (upd (upd H1 dx (.own x)) x (.ins C dx [])) (fun v H2 => v = .non ∧ Q (.ref x) H2) E
def Binds (K : PySem.W.Frag) (fd : FuncData) (ps : List Str) (ds : List Value) : Prop :=
  ∀ (s : Shared) (us : List Value), K.In s.heap → (us ++ ds).length = ps.length → BindsTo s fd ⟨us, []⟩ (ps.zip (us ++ ds))
theorem Binds.all {K : PySem.W.Frag} {fd : FuncData} {ps : List Str} (h : ∀ us : List Value, us.length = ps.length → bindArgs fd ⟨us, []⟩ = pure (ps.zip us)) : Binds K fd ps [] := fun s us _ hl => by
  rw [List.append_nil] at hl ⊢
  exact .of_eq (h us hl)
def Passes (CX : CXT) (X : Cx) (E : XK) : Prop := ∀ (pins : List (Addr × Obj)) (σ : St) (H : Hp) (s : Shared) (e : Value) (s' : Shared), Inv X pins σ H s → CX X.stack H s E e s' → X.xe e s'
section
variable {X : Cx} {CX : CXT} {k : Nat} {f C : Addr} {fd : FuncData} {ps : List Str} {sp : Sp} {dvs : List V} {ds : List Value} {E : XK} {x m : Str} {p pos apos : Pos} {e o : Expr} {es : List Expr} {ta : TE} {t : TA}
theorem run_fn {pins : List (Addr × Obj)} {σ : St} {H : Hp} {s : Shared} {Q : VK} {us : List Value} {vs : List V} (F : FnOk X.prog X.w X.K X.mg X.base CX k f fd ps sp) (hr : Room k X.A) (hb : Binds X.K fd ps ds) (hd : Vals dvs ds) (hx : Passes CX X E)
    (I : Inv X pins σ H s) (r : Vals vs us) (h : sp (vs ++ dvs) H Q E) : wpAny (model X.prog X.w) X.A (call (.ref f) us) (EP X pins σ Q) X.xe s := by
  have r2 : Vals (vs ++ dvs) (us ++ ds) := r.append hd
  have hl : (us ++ ds).length = ps.length := by rw [← r2.length]; exact F.len _ _ _ _ h
  refine wpAny_call (codeAny_mono (F.run X.A X.stack s H ⟨us, []⟩ (us ++ ds) (vs ++ dvs) Q E hr I.env0 (hb s us I.kIn hl) r2 h) fun r s' hq => ?_)
  cases r with
  | error e => exact hx pins σ H s e s' I hq
  | ok fl =>
    cases fl with
    | ret u => exact I.after hq
    | next => exact False.elim hq
    | brk => exact False.elim hq
    | cont => exact False.elim hq
theorem pe_call (F : FnOk X.prog X.w X.K X.mg X.base CX k f fd ps sp) (hr : Room k X.A) (hg : Gl X x) (hm : X.mg x = some (.ref f)) (hk : PySem.W.keepIn X.K (.ref f) = true) (hb : Binds X.K fd ps ds) (hd : Vals dvs ds) (hx : Passes CX X E)
    (ha : PA X (e :: es) t) (hdb : (x == ("__debug__" : Str)) = false := by decide) (he : starEach (e :: es) X.env = (false, eval e X.env) :: starEach es X.env := by rfl) (hpl : (backTo pos (starEach es X.env)).any (·.1) = false := by rfl) :
    PE X (.Call (.Name x p) (e :: es) [] pos) (tCall sp dvs E t) := by
  intro pins s σ H Q I h
  refine wpAny_Call_Name_kw (ld_glob I hg hm ?_ hdb)
  refine PySem.W.callWith_K (h₀ := X.base) I.ok.mod.kin hk (thn (ha pos pins s σ H _ I h) fun us s1 ⟨vs, H1, I1, r, q⟩ => ⟨I1.kIn, ?_⟩) he hpl
  exact run_fn F hr hb hd hx I1 r q
structure Mk (K : PySem.W.Frag) (C f : Addr) : Prop where
  makes : PySem.W.makesIn K C = true
  init : PySem.W.findIn K (.ref C) "__init__" = some (some (.ref f))
  fn : PySem.W.isFn K (.ref f) = true
  kp : PySem.W.keepIn K (.ref C) = true
end
def PK (X : Cx) (kws : List Keyword) (t : TA) : Prop :=
  ∀ (pos : Pos) (pins : List (Addr × Obj)) (s : Shared) (σ : St) (H : Hp) (Q : List V → Hp → Prop), Inv X pins σ H s → t σ H Q → wpAny (model X.prog X.w) X.A (evalAll ((backToKw pos (keywordEach kws X.env)).map (·.2))) (AP X pins σ Q) X.xe s
section
variable {X : Cx} {CX : CXT} {k : Nat} {f C : Addr} {fd : FuncData} {ps ks : List Str} {sp : Sp} {E : XK} {x m : Str} {p pos apos kpos : Pos} {e o : Expr} {es : List Expr} {kws : List Keyword} {te ta : TE} {t tk : TA} {nm : Option Str}
structure KBinds (K : PySem.W.Frag) (fd : FuncData) (ps ks : List Str) (g : List Value → List Value → List Value) (gV : List V → List V → List V) : Prop where
  to : ∀ (s : Shared) (us ws : List Value), K.In s.heap → (g us ws).length = ps.length → BindsTo s fd ⟨us, ks.zip ws⟩ (ps.zip (g us ws))
  rel : ∀ {vs : List V} {us : List Value} {zs : List V} {ws : List Value}, Vals vs us → Vals zs ws → Vals (gV vs zs) (g us ws)
def tCallK (sp : Sp) (gV : List V → List V → List V) (E : XK) (t tk : TA) : TE := fun σ H Q => t σ H fun vs H1 => tk σ H1 fun zs H2 => sp (gV vs zs) H2 Q E
variable {g : List Value → List Value → List Value} {gV : List V → List V → List V}
end
structure FnScope (N P : List Str) (sc : Scope) : Prop where
  kind : sc.kind = .function
  co : sc.isCoroutine = false
  gen : sc.isGenerator = false
  nd : N.Nodup
  pre : N.take P.length = P
  par : ∀ x ∈ P, sc.names.lookup x = some .local ∨ sc.names.lookup x = some .cell
  nofree : ∀ y ∈ sc.names, y.2 ≠ .free
theorem bindL_out {kindOf : Str → Option NameKind} {x : Str} : ∀ {binds : List (Str × Value)} {m : Str → Option Value}, (∀ v, (x, v) ∉ binds) → bindL kindOf binds m x = m x
  | [], _, _ => rfl
  | (n, v) :: r, m, h => by
    unfold bindL
    rw [bindL_out fun w hw => h w (List.mem_cons_of_mem _ hw)]
    split
    · have : x ≠ n := by rintro rfl; exact h v List.mem_cons_self
      simp [this]
    · rfl
theorem bindC_out {kindOf : Str → Option NameKind} {x : Str} : ∀ {binds : List (Str × Value)} {m : Str → Option Value}, (∀ v, (x, v) ∉ binds) → bindC kindOf binds m x = m x
  | [], _, _ => rfl
  | (n, v) :: r, m, h => by
    unfold bindC
    rw [bindC_out fun w hw => h w (List.mem_cons_of_mem _ hw)]
    split
    · rfl
    · have : x ≠ n := by rintro rfl; exact h v List.mem_cons_self
      simp [this]
theorem bindL_get {kindOf : Str → Option NameKind} {x : Str} {v : Value} : ∀ {P : List Str} {vs : List Value} {i : Nat} {m : Str → Option Value}, P.Nodup → P[i]? = some x → vs[i]? = some v → kindOf x = some .local →
    bindL kindOf (P.zip vs) m x = some v
  | [], _, _, _, _, h, _, _ => by simp at h
  | _ :: _, [], _, _, _, _, h, _ => by simp at h
  | p :: P, w :: vs, 0, m, nd, h1, h2, hk => by
    simp at h1 h2; subst h1; subst h2
    show bindL kindOf ((p, w) :: P.zip vs) m p = _
    unfold bindL
    rw [bindL_out fun v hv => (List.nodup_cons.mp nd).1 (List.of_mem_zip hv).1, if_pos hk]
    simp
  | p :: P, w :: vs, i + 1, m, nd, h1, h2, hk => by
    show bindL kindOf ((p, w) :: P.zip vs) m x = _
    unfold bindL
    exact bindL_get (i := i) (List.nodup_cons.mp nd).2 (by simpa using h1) (by simpa using h2) hk
theorem bindC_get {kindOf : Str → Option NameKind} {x : Str} {v : Value} : ∀ {P : List Str} {vs : List Value} {i : Nat} {m : Str → Option Value}, P.Nodup → P[i]? = some x → vs[i]? = some v → kindOf x ≠ some .local →
    bindC kindOf (P.zip vs) m x = some v
  | [], _, _, _, _, h, _, _ => by simp at h
  | _ :: _, [], _, _, _, _, h, _ => by simp at h
  | p :: P, w :: vs, 0, m, nd, h1, h2, hk => by
    simp at h1 h2; subst h1; subst h2
    show bindC kindOf ((p, w) :: P.zip vs) m p = _
    unfold bindC
    rw [bindC_out fun v hv => (List.nodup_cons.mp nd).1 (List.of_mem_zip hv).1, if_neg hk]
    simp
  | p :: P, w :: vs, i + 1, m, nd, h1, h2, hk => by
    show bindC kindOf ((p, w) :: P.zip vs) m x = _
    unfold bindC
    exact bindC_get (i := i) (List.nodup_cons.mp nd).2 (by simpa using h1) (by simpa using h2) hk
def start (N : List Str) (vs : List V) : St := vs.map some ++ List.replicate (N.length - vs.length) none
def cxOf (CX : CXT) (P : Program) (w : World) (K : PySem.W.Frag) (mg : Str → Option Value) (base : Heap) (N : List Str) (qual : Str) (scope : Scope) (f : Addr) (cd : Value) (A : Around) (outer : List Env) (s : Shared) (H : Hp) (E : XK) : Cx where
  prog := P
  w := w
  K := K
  mg := mg
  base := base
  A := A.deeper (envOfC qual scope s.heap.objs.size f cd)
  N := N
  s₀ := s
  H₀ := H
  env := envOfC qual scope s.heap.objs.size f cd
  outer := outer
  stack := envOfC qual scope s.heap.objs.size f cd :: outer
  ex := []
  calm := true
  fn := fun _ => true
  pn := []
  xe := fun e s' => wpAny (model P w) (A.deeper (envOfC qual scope s.heap.objs.size f cd)) (leaving (envOfC qual scope s.heap.objs.size f cd) e) (fun _ s'' => CX outer H s E e s'') (fun e' s'' => CX outer H s E e' s'') s'
theorem cell_has {sc : Scope} {n : Nat} {x : Str} (h : sc.names.lookup x = some .cell) : ∃ c, (cellsFrom n sc.names []).lookup x = some c := by
  have q := PySem.W.cellsFrom_some sc.names n [] (.inl h)
  exact Option.isSome_iff_exists.mp q
theorem inv_start {CX : CXT} {P : Program} {w : World} {K : PySem.W.Frag} {mg : Str → Option Value} {base : Heap} {N ps : List Str} {qual : Str} {scope : Scope} {f : Addr} {cd : Value} {A : Around} {outer : List Env} {s s1 : Shared} {H : Hp} {E : XK} {us : List Value} {vs : List V}
    (S : FnScope N ps scope) (hd : A.handled = none) (e0 : Env0 P w K mg base A outer s H) (hl : vs.length = ps.length) (r : Vals vs us)
    (x : InCallC s s.heap.objs.size (bindL (envOfC qual scope s.heap.objs.size f cd).kindOf (ps.zip us) fun _ => none) (cellsFrom (s.heap.objs.size + 1) scope.names []) (bindC (envOfC qual scope s.heap.objs.size f cd).kindOf (ps.zip us) fun _ => none) s1) :
    Inv (cxOf CX P w K mg base N qual scope f cd A outer s H E) [] (start N vs) H s1 := by
  have hpl : ps.length ≤ N.length := by have := congrArg List.length S.pre; rw [List.length_take] at this; omega
  obtain ⟨h1, tk, rfl, hk⟩ := x.done
  have noA : ∀ b : Addr, b ∉ (cxOf CX P w K mg base N qual scope f cd A outer s H E).ex := fun b z => absurd (show b ∈ ([] : List Addr) from z) (by simp)
  refine ⟨⟨e0.mod, S.kind, rfl, rfl, Nat.le_refl _, fun y z c h1 h2 => ?_, fun y hy => ?_, fun y c _ h => ?_, fun _ => hd, Around.frames_deeper e0.frames, .inr ⟨rfl, rfl⟩, fun b z => absurd z (noA b), e0.bs, e0.bsz, fun b _ _ => noA b, fun b z => absurd z (noA b), e0.funs, e0.frf⟩,
    rfl, e0.bare, Un.kept hk, ⟨_, x.toInCall.ns, fun i y v h1 h2 h3 => ?_⟩, fun y c h => ⟨_, x.cell y c h⟩, e0.hok.fresh (Nat.le_refl _), fun y c h => ?_, fun p hp => absurd (show p ∈ ([] : List (Addr × Obj)) from hp) (by simp), e0.hok.kept hk, ?_⟩
  · exact name_of_addr x.apart (PySem.mem_of_lookup h1) (PySem.mem_of_lookup h2)
  · have hy : scope.names.lookup y = some .cell ∨ scope.names.lookup y = some .free := hy
    rcases hy with hy | hy
    · exact cell_has hy
    · exact absurd rfl (S.nofree _ (PySem.mem_of_lookup hy))
  · exact Nat.le_of_lt (x.above y c (PySem.mem_of_lookup h))
  · have hi : i < vs.length := by
      unfold start at h2
      by_cases hi : i < vs.length
      · exact hi
      · rw [List.getElem?_append_right (by simpa using hi)] at h2
        rw [List.getElem?_replicate] at h2
        split at h2 <;> cases h2
    have ha : vs[i]? = some v := by
      unfold start at h2
      rw [List.getElem?_append_left (by simpa using hi), List.getElem?_map] at h2
      cases e : vs[i]? with
      | none => rw [e] at h2; cases h2
      | some a => rw [e] at h2; cases h2; rfl
    obtain ⟨u, hu, rv⟩ := r.get ha
    have hp : ps[i]? = some y := by
      rw [← S.pre, List.getElem?_take_of_lt (by omega)]; exact h1
    have ndP : ps.Nodup := by rw [← S.pre]; exact S.nd.sublist (List.take_sublist _ _)
    refine ⟨u, rv, ?_⟩
    rcases S.par y (List.mem_of_getElem? hp) with k | k
    · exact .inl ⟨k, bindL_get ndP hp hu k⟩
    · obtain ⟨c, e⟩ := cell_has (n := s.heap.objs.size + 1) k
      refine .inr ⟨.inl k, c, e, ?_⟩
      have q := x.cell y c e
      rw [bindC_get ndP hp hu (by show scope.names.lookup y ≠ _; rw [k]; decide)] at q
      exact q
  · exact e0.hok.fresh (Nat.le_of_lt (x.above y c (PySem.mem_of_lookup h)))
  · unfold start
    show _ = N.length
    rw [List.length_append, List.length_map, List.length_replicate]
    omega
theorem fn_of {CX : CXT} {P : Program} {w : World} {K : PySem.W.Frag} {mg : Str → Option Value} {base : Heap} {k : Nat} {f : Addr} {name qual : Str} {params : Arguments} {body : List Stmt} {scope : Scope} {dV kV doc pm cdv ct oc : Value} {an od : Option Addr}
    {osl : Array (Option Value)} {N ps : List Str} {sp : Sp} (lk : K.lookup f = some ⟨oc, od, .func (PySem.W.fnOf name qual params body scope dV kV doc pm an cdv ct), osl⟩) (hcd : PySem.W.codeIn K cdv qual = true) (S : FnScope N ps scope)
    (len : ∀ vs H Q E, sp vs H Q E → vs.length = ps.length)
    (hbody : ∀ (A : Around) (outer : List Env) (s : Shared) (H : Hp) (vs : List V) (Q : VK) (E : XK), Room k (A.deeper (envOfC qual scope s.heap.objs.size f cdv)) → sp vs H Q E →
      ∃ t, PSs (cxOf CX P w K mg base N qual scope f cdv A outer s H E) body t ∧ t { nx := fun _ H' => Q .non H', rt := Q } (start N vs) H) :
    FnOk P w K mg base CX (k + 1) f (PySem.W.fnOf name qual params body scope dV kV doc pm an cdv ct) ps sp := by
  refine ⟨len, fun A outer s H args us vs Q E hr e0 hb r hsp => ?_⟩
  have hl := len _ _ _ _ hsp
  have KX : K.In s.heap := e0.mod.kin.keeps fun b o e => (e0.bs b o e).1
  have lim : s.heap.NoLimit := e0.mod.nolimit.keeps fun b o e => (e0.bs b o e).1
  have hkind : ∀ y ∈ ps.zip us, scope.names.lookup y.1 = some .local ∨ (scope.names.lookup y.1 = some .cell ∧ ((cellsFrom (s.heap.objs.size + 1) scope.names []).lookup y.1).isSome = true) := fun ⟨n, v⟩ hy => by
    rcases S.par n (List.of_mem_zip hy).1 with q | q
    · exact .inl q
    · exact .inr ⟨q, PySem.W.cellsFrom_some _ _ _ (.inl q)⟩
  refine codeAny_call_function hr.depth (KX _ _ lk) rfl S.co S.gen rfl (PySem.W.codeRec_of KX hcd) (hb _ _ _ _ ?_)
  refine wpAny_newFunctionEnv_cells S.kind hkind fun env he s1 x => ?_
  subst he
  refine ⟨lim.keeps x.toInCall.keep, codeAny_func ?_⟩
  obtain ⟨t, ht, hq⟩ := hbody A outer s H vs Q E (hr.deeper _) hsp
  have I : Inv (cxOf CX P w K mg base N qual scope f cdv A outer s H E) [] (start N vs) H s1 := inv_start S hr.hd e0 hl r x
  refine wpAny_mono (ht [] s1 (start N vs) H _ I hq) (fun fl s' hs => ?_) fun e s' hs => hs
  have fin : ∀ {σ' : St} {H' : Hp} {v : V} {u : Value}, Inv (cxOf CX P w K mg base N qual scope f cdv A outer s H E) [] σ' H' s' → RelV v u → Q v H' → CE outer P w H s Q u s' :=
    fun {σ' H' v u} J rv q => ⟨v, H', J.os, J.bare, J.base, J.hok, rv, q⟩
  cases fl with
  | ret u =>
    obtain ⟨v, σ', H', J, rv, q⟩ := hs
    exact fin J rv q
  | next =>
    obtain ⟨σ', H', J, q⟩ := hs
    exact fin (v := V.non) (u := Value.none) J rfl q
  | brk =>
    obtain ⟨_, _, _, q⟩ := hs
    exact False.elim q
  | cont =>
    obtain ⟨_, _, _, q⟩ := hs
    exact False.elim q
end L2
namespace L2
open PySem PySem.Spec PyProof.Rows
section
variable {X : Cx} {x : Str} {p pos : Pos} {e : Expr} {es : List Expr} {t : TA} {id T : String} {r : List V → Hp → VK → Prop}
def tCB (r : List V → Hp → VK → Prop) (t : TA) : TE := fun σ H Q => t σ H fun vs H1 => r vs H1 Q
theorem pe_callB (hc : CallR X (.builtin id) r) (hg : Gl X x) (hm : X.mg x = none) (hv : bootBuiltins x = some (.builtin id)) (ha : PA X (e :: es) t) (hn : x ≠ "__name__" := by decide) (hdb : (x == ("__debug__" : Str)) = false := by decide)
    (he : starEach (e :: es) X.env = (false, eval e X.env) :: starEach es X.env := by rfl) (hpl : (backTo pos (starEach es X.env)).any (·.1) = false := by rfl) : PE X (.Call (.Name x p) (e :: es) [] pos) (tCB r t) := by
  intro pins s σ H Q I h
  refine wpAny_Call_Name_kw (ld_blt I hg hm hv ?_ hn hdb)
  exact PyProof.Rows.callWith_builtin1 (thn (ha pos pins s σ H _ I h) fun us s1 ⟨vs, H1, I1, r1, q1⟩ => hc pins s1 σ H1 vs us Q I1 r1 q1) he hpl
theorem pe_callTy (hc : CallR X (.type T) r) (hg : Gl X x) (hm : X.mg x = none) (hv : bootBuiltins x = some (.type T)) (ha : PA X (e :: es) t) (hn : x ≠ "__name__" := by decide) (hdb : (x == ("__debug__" : Str)) = false := by decide)
    (he : starEach (e :: es) X.env = (false, eval e X.env) :: starEach es X.env := by rfl) (hpl : (backTo pos (starEach es X.env)).any (·.1) = false := by rfl) : PE X (.Call (.Name x p) (e :: es) [] pos) (tCB r t) := by
  intro pins s σ H Q I h
  refine wpAny_Call_Name_kw (ld_blt I hg hm hv ?_ hn hdb)
  exact PyProof.Rows.callWith_type1 (thn (ha pos pins s σ H _ I h) fun us s1 ⟨vs, H1, I1, r1, q1⟩ => hc pins s1 σ H1 vs us Q I1 r1 q1) he hpl
end
end L2
namespace HT
open PySem PyProof.Rows
def lexLt : List Int → List Int → Bool
  | [], [] => false
  | [], _ :: _ => true
  | _ :: _, [] => false
  | x :: xs, y :: ys => if x = y then lexLt xs ys else decide (x < y)
section
open PySem.SeqAt
open PySem.AutoSeq1 (wpAny_loadPart')
open PySem.MeetsSeq PySem.MeetsSeq2 PySem.MeetsSeq3
end
section
variable {prog : Program} {w : World} {A : Around} {E : Value → Shared → Prop} {s : Shared}
theorem cat_tup {t b : Addr} {vs ws : List Value} {Q : Value → Shared → Prop} (ht : IsTup s.heap t vs.toArray) (hb : IsTup s.heap b ws.toArray) (hv : vs ≠ [])
    (h1 : ws = [] → Q (.ref t) s) (h2 : ws ≠ [] → Q (.ref s.heap.objs.size) { s with heap := s.heap.push { cls := .type "tuple", data := .seq (vs ++ ws).toArray } })
    (hsz : vs.length + ws.length ≤ sizeLine) : wpAny (model prog w) A (binaryOp .Add (.ref t) (.ref b)) Q E s := by
  obtain ⟨⟨cls, dd, data, sl⟩, ho, hc, n, hd⟩ := id ht
  obtain ⟨⟨cls2, dd2, data2, sl2⟩, ho2, hc2, n2, hd2⟩ := id hb
  simp only at hc hd hc2 hd2
  subst hc hd hc2 hd2
  have e : vs.toArray ++ ws.toArray = (vs ++ ws).toArray := by simp
  by_cases hw : ws = []
  · exact concat_meets ⟨_, ho, rfl⟩ ⟨_, ho2, rfl⟩ noFill_tuple_add seq_tuple_add PySem.F.slot_tuple_add PySem.F.entry_tuple_add (PySem.F.args_tuple_add_2 _ _)
      (tuple_addW1 t b vs.toArray ws.toArray n n2 dd dd2 sl sl2 (by simpa using hv) (by simp [hw])) ⟨ho, ho2, h1 hw⟩
  · refine concat_meets ⟨_, ho, rfl⟩ ⟨_, ho2, rfl⟩ noFill_tuple_add seq_tuple_add PySem.F.slot_tuple_add PySem.F.entry_tuple_add (PySem.F.args_tuple_add_2 _ _)
      (tuple_addW2 t b vs.toArray ws.toArray n n2 dd dd2 sl sl2 (by simpa using hv) (by simpa using hw) (by rw [List.size_toArray, List.size_toArray]; exact hsz)) ⟨ho, ho2, ?_⟩
    rw [e]
    exact h2 hw
def sIx (n d : Nat) : Option Int → Nat
  | none => d
  | some v => if v < 0 then (v + (n : Int)).toNat else min v.toNat n
theorem sIx_none (n d : Nat) : sIx n d none = d := rfl
theorem sIx_nat (n d k : Nat) : sIx n d (some (k : Int)) = min k n := by
  show (if (k : Int) < 0 then ((k : Int) + (n : Int)).toNat else min (k : Int).toNat n) = min k n
  rw [if_neg (by omega), Int.toNat_natCast]
theorem sIx_le (n d : Nat) (hd : d ≤ n) (o : Option Int) : sIx n d o ≤ n := by
  cases o with
  | none => exact hd
  | some v =>
    show (if v < 0 then (v + (n : Int)).toNat else min v.toNat n) ≤ n
    by_cases hv : v < 0
    · rw [if_pos hv]; omega
    · rw [if_neg hv]; exact Nat.min_le_right _ _
theorem clip_eq (v : Int) (n d : Nat) : (if v < 0 then max (v + (n : Int)) 0 else min v (n : Int)) = ((sIx n d (some v) : Nat) : Int) := by
  show (if v < 0 then max (v + (n : Int)) 0 else min v (n : Int)) = (((if v < 0 then (v + (n : Int)).toNat else min v.toNat n) : Nat) : Int)
  by_cases hv : v < 0
  · simp only [if_pos hv]; omega
  · simp only [if_neg hv]; omega
theorem adjust_gen (lo hi : Option Int) (n : Nat) : Builtin.Slice.sliceAdjust lo hi 1 (n : Int) = (((sIx n 0 lo : Nat) : Int), ((sIx n n hi : Nat) : Int)) := by
  have h1 : ¬ ((1 : Int) < 0) := by omega
  unfold Builtin.Slice.sliceAdjust
  simp only [h1, if_false]
  refine Prod.ext ?_ ?_
  · cases lo with
    | none => rfl
    | some v => exact clip_eq v n 0
  · cases hi with
    | none => rfl
    | some v => exact clip_eq v n n
theorem places_gen (i j : Nat) : Builtin.Slice.slicePlaces (i : Int) (j : Int) 1 = j - i := by
  unfold Builtin.Slice.slicePlaces
  have h1 : (1 : Int) > 0 := by omega
  simp only [h1, if_true, Int.ediv_one]
  split <;> omega
theorem slicePart_ {v : Value} {o : Option Int} {Q : Option Int → Shared → Prop} (p : IsPart v o) (h : Q o s) : wpAny (model prog w) A (Builtin.Slice.slicePartIndex v) Q E s := by
  cases p with
  | none => exact slicePart_none h
  | int i t => exact slicePart_int h
theorem sliceApplied_gen {sl : Addr} {vl vu : Value} {lo hi : Option Int} {n : Nat} {Q : Int × Int × Nat → Shared → Prop} (hs : s.heap.IsSliceOf sl vl vu .none) (pl : IsPart vl lo) (pu : IsPart vu hi)
    (h : Q (((sIx n 0 lo : Nat) : Int), 1, sIx n n hi - sIx n 0 lo) s) : wpAny (model prog w) A (Builtin.Slice.sliceApplied (.ref sl) (pure (n : Int))) Q E s := by
  obtain ⟨os, hos, hcs, hds⟩ := id hs
  unfold Builtin.Slice.sliceApplied Builtin.Slice.sliceFields
  refine wpAny_bind (wpAny_bind (wpAny_field hos hds (x := vl) rfl (wpAny_bind (wpAny_field hos hds (x := vu) rfl (wpAny_bind (wpAny_field hos hds (x := .none) rfl (wpAny_pure ?_)))))))
  refine wpAny_bind (slicePart_none ?_)
  show wpAny _ _ (if ((1 : Int) == 0) = true then _ else _) _ _ s
  rw [if_neg (by decide)]
  refine wpAny_bind (slicePart_ pl (wpAny_bind (slicePart_ pu (wpAny_bind (wpAny_pure ?_)))))
  show wpAny _ _ (match Builtin.Slice.sliceAdjust lo hi 1 (n : Int) with | (lo, hi) => pure (lo, (1 : Int), Builtin.Slice.slicePlaces lo hi 1)) _ _ s
  rw [adjust_gen lo hi n]
  show wpAny _ _ (pure (((sIx n 0 lo : Nat) : Int), (1 : Int), Builtin.Slice.slicePlaces ((sIx n 0 lo : Nat) : Int) ((sIx n n hi : Nat) : Int) 1)) _ _ s
  rw [places_gen]
  exact wpAny_pure h
theorem pick_gen (xs : Array Value) (i k : Nat) : ((List.range k).filterMap fun (m : Nat) => xs[((i : Int) + (m : Int) * 1).toNat]?).toArray = ((xs.toList.drop i).take k).toArray := by
  have e : (fun (m : Nat) => xs[((i : Int) + (m : Int) * 1).toNat]?) = fun m => xs[i + m]? := by
    funext m
    have : ((i : Int) + (m : Int) * 1).toNat = i + m := by omega
    rw [this]
  rw [e]
  have := pick_run xs i k
  rw [List.filterMap_map] at this
  have e2 : ((fun x => xs[x]?) ∘ fun x => i + x) = fun m => xs[i + m]? := rfl
  rw [e2] at this
  rw [this]
theorem getItem_tuple_cut {t sl : Addr} {items : Array Value} {vl vu : Value} {lo hi : Option Int} {Q : Value → Shared → Prop} (ht : IsTup s.heap t items) (hs : s.heap.IsSliceOf sl vl vu .none) (pl : IsPart vl lo) (pu : IsPart vu hi)
    (hw : ¬ (sIx items.size 0 lo = 0 ∧ sIx items.size items.size hi = items.size))
    (h : Q (.ref s.heap.objs.size) { s with heap := s.heap.push { cls := .type "tuple", data := .seq ((items.toList.drop (sIx items.size 0 lo)).take (sIx items.size items.size hi - sIx items.size 0 lo)).toArray } })
    (hsz : items.size ≤ sizeLine) : wpAny (model prog w) A (getItem (.ref t) (.ref sl)) Q E s := by
  have htake : sizeOk (.seq ((items.toList.drop (sIx items.size 0 lo)).take (sIx items.size items.size hi - sIx items.size 0 lo)).toArray) := by
    show ((items.toList.drop (sIx items.size 0 lo)).take (sIx items.size items.size hi - sIx items.size 0 lo)).toArray.size ≤ sizeLine
    rw [List.size_toArray, List.length_take, List.length_drop, Array.length_toList]
    omega
  have hj : sIx items.size items.size hi ≤ items.size := sIx_le _ _ (Nat.le_refl _) hi
  obtain ⟨os, hos, hcs, hds⟩ := id hs
  have hTs : s.TypeIs (.ref sl) "slice" := ⟨os, hos, hcs⟩
  unfold getItem
  try with_reducible refine wpAny_holding ?_
  first | refine wpAny_bind (wpAny_pure ?_) | skip
  refine wpAny_bind (wpAny_sequenceKey ht.typeIs (by decide) ?_)
  refine wpAny_bind (wpAny_callSpecial?_slot (name := Str.ofString "__getitem__") ht.typeIs PyProof.Rows.slot_tuple_getitem
    (wpAny_call_entry PyProof.Rows.slot_tuple_getitem ht.typeIs entry_tuple_getitem ?_ (args_tuple_getitem _ _)))
  show wpAny _ _ (Builtin.Tuple.tupleItemsOf (.ref t) >>= _) _ _ s
  refine wpAny_bind (tupleItemsOf_ ht ?_)
  refine wpAny_bind (wpAny_typeOf hTs ?_)
  rw [if_pos (by decide)]
  refine wpAny_bind (sliceApplied_gen hs pl pu ?_)
  have hno : ¬ ((((sIx items.size 0 lo : Nat) : Int) == 0 && (1 : Int) == 1 && (sIx items.size items.size hi - sIx items.size 0 lo) == items.size) = true) := by
    intro q
    rw [Bool.and_eq_true, Bool.and_eq_true] at q
    have q1 : ((sIx items.size 0 lo : Nat) : Int) = 0 := eq_of_beq q.1.1
    have q2 : sIx items.size items.size hi - sIx items.size 0 lo = items.size := eq_of_beq q.2
    exact hw ⟨by omega, by omega⟩
  show wpAny _ _ (if (((sIx items.size 0 lo : Nat) : Int) == 0 && (1 : Int) == 1 && (sIx items.size items.size hi - sIx items.size 0 lo) == items.size) = true then _ else _) _ _ s
  rw [if_neg hno, pick_gen]
  first
    | exact wpAny_bind (m := Builtin.Tuple.tupleExact _) (wpAny_newObj_type (wpAny_pure ⟨_, rfl, wpAny_pure h⟩) htake)
    | exact wpAny_bind (m := Builtin.Tuple.tupleExact _) (wpAny_newObj_type (wpAny_bind (wpAny_pure (wpAny_pure ⟨_, rfl, wpAny_pure h⟩))) htake)
    | exact wpAny_bind (wpAny_bind (m := Builtin.Tuple.tupleExact _) (wpAny_newObj_type (wpAny_pure (wpAny_pure ⟨_, rfl, wpAny_pure h⟩)) htake))
    | exact wpAny_bind (wpAny_bind (m := Builtin.Tuple.tupleExact _) (wpAny_newObj_type (wpAny_pure ⟨_, rfl, wpAny_pure h⟩) htake))
end
end HT
namespace L2
open PySem PySem.Spec PyProof.Rows
abbrev TO := St → Hp → (Option Int → Hp → Prop) → Prop
def PO (X : Cx) (e : Option Expr) (t : TO) : Prop :=
  ∀ (pins : List (Addr × Obj)) (s : Shared) (σ : St) (H : Hp) (Q : Option Int → Hp → Prop), Inv X pins σ H s → t σ H Q →
    wpAny (model X.prog X.w) X.A (evalPart e X.env) (fun u s' => ∃ o H', Inv X pins σ H' s' ∧ IsPart u o ∧ Q o H') X.xe s
def tNoPart : TO := fun _ H Q => Q none H
def tPart (t : TE) : TO := fun σ H Q => t σ H fun x H1 => ∃ i, x = .int i ∧ Q (some i) H1
section
variable {X : Cx} {e : Expr} {te : TE} {lo hi : Option Expr} {tl th : TO} {pos p2 : Pos}
theorem po_none : PO X none tNoPart := by
  intro pins s σ H Q I h
  rw [evalPart_none]
  exact wpAny_pure ⟨none, H, I, .none, h⟩
theorem po_some (h : PE X e te) : PO X (some e) (tPart te) := by
  intro pins s σ H Q I hw
  rw [evalPart_some]
  refine thn (h pins s σ H _ I hw) fun u s1 ⟨x, H1, I1, r1, q1⟩ => ?_
  obtain ⟨i, rfl, q⟩ := q1
  obtain ⟨t, rfl⟩ := r1
  exact ⟨some i, H1, I1, .int i t, q⟩
def SlR (X : Cx) (r : V → Option Int → Option Int → Hp → VK → Prop) : Prop :=
  ∀ (pins : List (Addr × Obj)) (s : Shared) (σ : St) (H : Hp) (x : V) (v vl vu : Value) (lo hi : Option Int) (sl : Addr) (Q : VK), Inv X pins σ H s → RelV x v → s.heap.IsSliceOf sl vl vu .none → IsPart vl lo → IsPart vu hi → r x lo hi H Q →
    ∃ T id, typeLookup (.type T) "__getitem__" = pure (some (.builtin id)) ∧ s.TypeIs v T ∧ wpAny (model X.prog X.w) X.A (getItem v (.ref sl)) (EP X pins σ Q) X.xe s
theorem SlR.or {r r' : V → Option Int → Option Int → Hp → VK → Prop} (h : SlR X r) (h' : SlR X r') : SlR X (fun x lo hi H Q => r x lo hi H Q ∨ r' x lo hi H Q) := by
  intro pins s σ H x v vl vu lo hi sl Q I rx hs pl pu q
  rcases q with q | q
  · exact h pins s σ H x v vl vu lo hi sl Q I rx hs pl pu q
  · exact h' pins s σ H x v vl vu lo hi sl Q I rx hs pl pu q
def tSl (r : V → Option Int → Option Int → Hp → VK → Prop) (te : TE) (tl th : TO) : TE := fun σ H Q => te σ H fun x H1 => tl σ H1 fun l H2 => th σ H2 fun u H3 => r x l u H3 Q
theorem pe_slice {r : V → Option Int → Option Int → Hp → VK → Prop} (hr : SlR X r) (he : PE X e te) (hl : PO X lo tl) (hu : PO X hi th) : PE X (.Subscript e (.Slice lo hi none p2) pos) (tSl r te tl th) := by
  intro pins s σ H Q I h
  refine Subscript_ (thn (he pins s σ H _ I h) fun v s1 ⟨x, H1, I1, r1, q1⟩ => ?_)
  refine wpAny_Slice (thn (hl pins s1 σ H1 _ I1 q1) fun vl s2 ⟨l, H2, I2, pl, q2⟩ => thn (hu pins s2 σ H2 _ I2 q2) fun vu s3 ⟨u, H3, I3, pu, q3⟩ => ?_)
  rw [evalPart_none]
  refine wpAny_pure ?_
  have I4 : Inv X pins σ H3 { s3 with heap := s3.heap.push { cls := .type "slice", data := .fields #[vl, vu, .none] } } := I3.kept (t' := s3.toks) fun b ob q => Heap.get?_push_of_some _ q
  obtain ⟨T, id, hT, ht, hg⟩ := hr pins { s3 with heap := s3.heap.push { cls := .type "slice", data := .fields #[vl, vu, .none] } } σ H3 x v vl vu l u s3.heap.objs.size Q I4 r1 (Heap.IsSliceOf.new ..) pl pu q3
  show wpAny (model X.prog X.w) X.A (subscriptTail e (.Slice lo hi none p2) v (.ref s3.heap.objs.size)) (EP X pins σ Q) X.xe { s3 with heap := s3.heap.push { cls := .type "slice", data := .fields #[vl, vu, .none] } }
  exact tail_any (ops := [.ref s3.heap.objs.size, v]) ht hT hg (by with_unfolding_all rfl)
def cutV (xs : List V) (lo hi : Option Int) : List V := (xs.drop (HT.sIx xs.length 0 lo)).take (HT.sIx xs.length xs.length hi - HT.sIx xs.length 0 lo)
theorem cutV_length (xs : List V) (lo hi : Option Int) : (cutV xs lo hi).length ≤ xs.length := by
  unfold cutV
  rw [List.length_take, List.length_drop]
  omega
def rSlT (K : PySem.W.Frag) : V → Option Int → Option Int → Hp → VK → Prop := fun x lo hi H Q => ∃ a xs, x = .ref a ∧ SqT K H a xs ∧
  ¬ (HT.sIx xs.length 0 lo = 0 ∧ HT.sIx xs.length xs.length hi = xs.length) ∧ ∀ p, H p = none → Q (.ref p) (upd H p (.tup (cutV xs lo hi)))
theorem sl_tup : SlR X (rSlT X.K) := by
  intro pins s σ H x v vl vu lo hi sl Q I rx hs pl pu h
  obtain ⟨a, xs, rfl, hx, hw, q⟩ := h
  cases rx
  obtain ⟨its, r, ht, hz⟩ := I.tuple hx
  have hlen : its.toArray.size = xs.length := by rw [List.size_toArray]; exact r.length.symm
  refine ⟨"tuple", _, PyProof.Rows.slot_tuple_getitem.lookup, ht.typeIs, ?_⟩
  refine HT.getItem_tuple_cut ht hs pl pu (by rw [hlen]; exact hw) ?_ (by rw [hlen]; exact hz)
  rw [hlen]
  refine ⟨.ref s.heap.objs.size, _, I.laid (t' := s.toks) (o := .tup (cutV xs lo hi)) (fun b ob q => Heap.get?_push_of_some _ q) (Nat.le_refl _) ?_, rfl, q _ (I.hok.fresh (Nat.le_refl _))⟩
  exact ⟨Nat.le_trans (cutV_length xs lo hi) hz, _, (r.drop (HT.sIx xs.length 0 lo)).take (HT.sIx xs.length xs.length hi - HT.sIx xs.length 0 lo), IsTupN.new _ _⟩
def rLtT (K : PySem.W.Frag) : R2 := fun x y H Q => ∃ a b ns ms, x = .ref a ∧ y = .ref b ∧ SqT K H a (ns.map V.int) ∧ SqT K H b (ms.map V.int) ∧ Q (.bl (HT.lexLt ns ms)) H
def rCatT (K : PySem.W.Frag) : R2 := fun x y H Q => ∃ a b xs ys, x = .ref a ∧ y = .ref b ∧ SqT K H a xs ∧ SqT K H b ys ∧ xs ≠ [] ∧ xs.length + ys.length ≤ sizeLine ∧
  (ys = [] → Q (.ref a) H) ∧ (ys ≠ [] → ∀ p, H p = none → Q (.ref p) (upd H p (.tup (xs ++ ys))))
theorem Vals.nil_iff {xs : List V} {us : List Value} (r : Vals xs us) : us = [] ↔ xs = [] := by
  cases r with
  | nil => simp
  | cons _ _ => simp
end
end L2
namespace L2
open PySem PySem.Spec PyProof.Rows
def ixN (n : Nat) (i : Int) : Option Nat := if 0 ≤ i then (if i < n then some i.toNat else none) else if -(n : Int) ≤ i then some (i + n).toNat else none
def atI {α : Type} (xs : List α) (i : Int) : Option α := (ixN xs.length i).bind fun j => xs[j]?
theorem ixN_seq {n : Nat} {i : Int} {j : Nat} (h : ixN n i = some j) : seqIndex? i n = some j ∧ j < n ∧ -(n : Int) ≤ i ∧ i < n := by
  unfold ixN at h
  by_cases h0 : 0 ≤ i
  · rw [if_pos h0] at h
    by_cases h1 : i < n
    · rw [if_pos h1] at h
      have e : i.toNat = j := Option.some.inj h
      exact ⟨by rw [seqIndex_of h0 h1, e], by omega, by omega, h1⟩
    · rw [if_neg h1] at h; cases h
  · rw [if_neg h0] at h
    by_cases h1 : -(n : Int) ≤ i
    · rw [if_pos h1] at h
      have e : (i + n).toNat = j := Option.some.inj h
      exact ⟨by rw [seqIndex_neg (by omega) h1, e], by omega, h1, by omega⟩
    · rw [if_neg h1] at h; cases h
theorem atI_get {α : Type} {xs : List α} {i : Int} {v : α} (h : atI xs i = some v) : ∃ j, seqIndex? i xs.length = some j ∧ xs[j]? = some v ∧ j < xs.length ∧ -(xs.length : Int) ≤ i ∧ i < xs.length := by
  unfold atI at h
  cases e : ixN xs.length i with
  | none => rw [e] at h; cases h
  | some j =>
    rw [e] at h
    obtain ⟨h1, h2, h3, h4⟩ := ixN_seq e
    exact ⟨j, h1, h, h2, h3, h4⟩
theorem atI_nat {α : Type} {xs : List α} {j : Nat} {v : α} (h : xs[j]? = some v) : atI xs (j : Int) = some v := by
  have hj : j < xs.length := (List.getElem?_eq_some_iff.mp h).1
  have e : ixN xs.length (j : Int) = some j := by
    unfold ixN
    rw [if_pos (by omega), if_pos (by omega)]; simp
  unfold atI; rw [e]; exact h
theorem atI_last {α : Type} (xs : List α) (v : α) : atI (xs ++ [v]) (-1) = some v := by
  have hl : (xs ++ [v]).length = xs.length + 1 := by simp
  have e : ixN (xs ++ [v]).length (-1) = some xs.length := by
    unfold ixN
    rw [hl, if_neg (by decide), if_pos (by omega)]
    congr 1
    omega
  unfold atI
  rw [e]
  show (xs ++ [v])[xs.length]? = some v
  simp
def PlainIx (b : Expr) : Prop := ∀ o i, subscripted b false o i = operate [o, i] (getItem o i)
def IxR (X : Cx) (r : R2) : Prop :=
  ∀ (value slice : Expr) (pins : List (Addr × Obj)) (s : Shared) (σ : St) (H : Hp) (x y : V) (v u : Value) (Q : VK), Inv X pins σ H s → RelV x v → RelV y u → r x y H Q →
    subscripted slice false v u = operate [v, u] (getItem v u) → wpAny (model X.prog X.w) X.A (subscriptTail value slice v u) (EP X pins σ Q) X.xe s
def MtR (X : Cx) (id : String) (r : V → List V → Hp → VK → Prop) : Prop :=
  ∀ (pins : List (Addr × Obj)) (s : Shared) (σ : St) (H : Hp) (x : V) (xs : List V) (v : Value) (us : List Value) (Q : VK), Inv X pins σ H s → RelV x v → Vals xs us → r x xs H Q →
    wpAny (model X.prog X.w) X.A (call (.builtin id) (v :: us)) (EP X pins σ Q) X.xe s
section
variable {X : Cx} {a b : Expr} {ta tb : TE} {pos : Pos}
theorem pe_ix {r : R2} (hr : IxR X r) (ha : PE X a ta) (hb : PE X b tb) (hs : PlainIx b) : PE X (.Subscript a b pos) (tOp r ta tb) := by
  intro pins s σ H Q I h
  exact Subscript_ (binT ha hb I h fun v u s2 x y H2 I2 rx ry q => hr a b pins s2 σ H2 x y v u Q I2 rx ry q (hs _ _))
def rIxL (K : PySem.W.Frag) : R2 := fun x y H Q => ∃ p xs i v, x = .ref p ∧ y = .int i ∧ SqL K H p xs ∧ atI xs i = some v ∧ Q v H
def rIxT (K : PySem.W.Frag) : R2 := fun x y H Q => ∃ p xs i v, x = .ref p ∧ y = .int i ∧ SqT K H p xs ∧ atI xs i = some v ∧ Q v H
def rIxS : R2 := fun x y H Q => ∃ z i c, x = .str z ∧ y = .int i ∧ z.length ≤ sizeLine ∧ atI z.cps.toList i = some c ∧ Q (.str ⟨#[c]⟩) H
theorem ix_list : IxR X (rIxL X.K) := by
  intro value slice pins s σ H x y v u Q I rx ry h hs
  obtain ⟨p, xs, i, z, rfl, rfl, hq, he, q⟩ := h
  cases rx
  obtain ⟨t, rfl⟩ := ry
  obtain ⟨its, r, pl, hz⟩ := I.list hq
  obtain ⟨j, h1, h2, h3, h4, h5⟩ := atI_get he
  obtain ⟨w, ew, rw'⟩ := r.get h2
  have hl := r.length
  have hn := line63
  have fin : EP X pins σ Q w s := ⟨z, H, I, rw', q⟩
  by_cases h0 : 0 ≤ i
  · have hj : i.toNat = j := by
      rw [seqIndex_of h0 h5] at h1
      exact Option.some.inj h1
    exact item_listR pl.isList h0 (by omega) (by rw [hj]; simpa using ew) fin hs
  · have hj : (i + (its.toArray.size : Int)).toNat = j := by
      rw [seqIndex_neg (by omega) h4] at h1
      rw [List.size_toArray, ← hl]
      exact Option.some.inj h1
    exact subscriptTail_builtinR (x := w) pl.isList.typeIs slot_list_getitem.lookup
      (wpAny_getItem_list_neg (Q := fun r s' => r = w ∧ EP X pins σ Q r s') pl.isList (by omega) (by rw [List.size_toArray] <;> omega) (by omega) (by rw [hj]; simpa using ew) ⟨rfl, fin⟩) hs
theorem ix_tup : IxR X (rIxT X.K) := by
  intro value slice pins s σ H x y v u Q I rx ry h hs
  obtain ⟨p, xs, i, z, rfl, rfl, hq, he, q⟩ := h
  cases rx
  obtain ⟨t, rfl⟩ := ry
  obtain ⟨its, r, pl, hz⟩ := I.tuple hq
  obtain ⟨j, h1, h2, h3, h4, h5⟩ := atI_get he
  obtain ⟨w, ew, rw'⟩ := r.get h2
  have hl := r.length
  have hn := line63
  have fin : EP X pins σ Q w s := ⟨z, H, I, rw', q⟩
  exact subscriptTail_builtinR (x := w) pl.typeIs slot_tuple_getitem.lookup
    (getItem_tuple (j := j) (Q := fun r s' => r = w ∧ EP X pins σ Q r s') pl (by omega) (by omega) (by rw [List.size_toArray, ← hl]; exact h1) (by simpa using ew) ⟨rfl, fin⟩) hs
theorem ix_str : IxR X rIxS := by
  intro value slice pins s σ H x y v u Q I rx ry h hs
  obtain ⟨z, i, c, rfl, rfl, hz, he, q⟩ := h
  obtain ⟨t, rfl⟩ := rx
  obtain ⟨t', rfl⟩ := ry
  obtain ⟨j, h1, h2, h3, h4, h5⟩ := atI_get he
  have hl : z.cps.toList.length = z.length := by simp [Str.length]
  rw [hl] at h1 h4 h5
  have hn := line63
  exact tail_any (typeIs_str s z t) slot_str_getitem.lookup (getItem_str (c := c) (by
    have e1 : decide (i < -(2 ^ 63 : Int)) = false := decide_eq_false (by omega)
    have e2 : decide (i ≥ 2 ^ 63) = false := decide_eq_false (by omega)
    rw [e1, e2, Bool.or_false]) (by rw [h1]; simpa using h2) ⟨.str ⟨#[c]⟩, H, I.tok _, ⟨_, rfl⟩, q⟩) hs
def rIx (K : PySem.W.Frag) : R2 := fun x y H Q => rIxL K x y H Q ∨ rIxT K x y H Q ∨ rIxS x y H Q
def rSetL : V → V → V → Hp → (Hp → Prop) → Prop := fun o i v H Q => ∃ p xs k j, o = .ref p ∧ i = .int k ∧ H p = some (.lst xs) ∧ ixN xs.length k = some j ∧ Q (upd H p (.lst (xs.set j v)))
theorem slice_bounds (lo hi : Option Int) (n : Nat) : (sliceBounds lo hi none n).1 = ((HT.sIx n 0 lo : Nat) : Int) ∧ (sliceBounds lo hi none n).2.1 = ((HT.sIx n n hi : Nat) : Int) ∧ (sliceBounds lo hi none n).2.2 = 1 := by
  refine ⟨?_, ?_, rfl⟩
  · cases lo with
    | none => simp [sliceBounds, HT.sIx]
    | some i =>
      simp only [sliceBounds, HT.sIx, Option.getD_none, show (1 : Int) > 0 by decide, if_true]
      by_cases h : i < 0
      · simp only [h, if_true] <;> omega
      · simp only [h, if_false] <;> omega
  · cases hi with
    | none => simp [sliceBounds, HT.sIx]
    | some i =>
      simp only [sliceBounds, HT.sIx, Option.getD_none, show (1 : Int) > 0 by decide, if_true]
      by_cases h : i < 0
      · simp only [h, if_true] <;> omega
      · simp only [h, if_false] <;> omega
theorem slicePick_cut (its : List Value) (lo hi : Option Int) : slicePick its.toArray lo hi none = ((its.drop (HT.sIx its.length 0 lo)).take (HT.sIx its.length its.length hi - HT.sIx its.length 0 lo)).toArray := by
  obtain ⟨h1, h2, h3⟩ := slice_bounds lo hi its.toArray.size
  unfold slicePick
  rw [h1, h2, h3]
  simp only [sliceRange_one, pick_run, List.size_toArray] <;> rfl
def rSlL (K : PySem.W.Frag) : V → Option Int → Option Int → Hp → VK → Prop := fun x lo hi H Q => ∃ a xs, x = .ref a ∧ SqL K H a xs ∧ ∀ p, H p = none → Q (.ref p) (upd H p (.lst (cutV xs lo hi)))
theorem sl_list : SlR X (rSlL X.K) := by
  intro pins s σ H x v vl vu lo hi sl Q I rx hs pl pu h
  obtain ⟨a, xs, rfl, hx, q⟩ := h
  cases rx
  obtain ⟨its, r, ht, hz⟩ := I.list hx
  have hlen := r.length
  refine ⟨"list", _, slot_list_getitem.lookup, ht.isList.typeIs, ?_⟩
  refine wpAny_getItem_list_slice ht.isList hs pl pu .none (by simp) ?_ (by rw [List.size_toArray] <;> omega)
  rw [slicePick_cut, ← hlen]
  refine ⟨.ref s.heap.objs.size, _, I.laid (t' := s.toks) (o := .lst (cutV xs lo hi)) (fun b ob q => Heap.get?_push_of_some _ q) (Nat.le_refl _) ?_, rfl, q _ (I.hok.fresh (Nat.le_refl _))⟩
  exact ⟨Nat.le_trans (cutV_length xs lo hi) hz, _, 0, (r.drop (HT.sIx xs.length 0 lo)).take (HT.sIx xs.length xs.length hi - HT.sIx xs.length 0 lo), Heap.get?_push_size _ rfl⟩
def flatV : V → Bool
  | .non => true
  | .bl _ => true
  | .int _ => true
  | .str _ => true
  | _ => false
def eqV : V → V → Bool
  | .non, .non => true
  | .bl a, .bl b => a == b
  | .bl a, .int b => (if a then 1 else 0) == b
  | .int a, .bl b => a == (if b then 1 else 0)
  | .int a, .int b => a == b
  | .str a, .str b => a == b
  | _, _ => false
theorem eqAt_V {A : Around} {s : Shared} {y x : V} {u v : Value} (ry : RelV y u) (rx : RelV x v) (fy : flatV y = true) (fx : flatV x = true) : SeqAt.EqAt A s u v (eqV y x) := by
  cases y with
  | non =>
    cases ry
    cases x with
    | non => cases rx; exact SeqAt.EqAt.same _
    | bl b => cases rx; exact SeqAt.EqAt.none_bool b
    | int b => obtain ⟨t, rfl⟩ := rx; exact SeqAt.EqAt.none_int b t
    | str b => obtain ⟨t, rfl⟩ := rx; exact SeqAt.EqAt.none_str b t
    | _ => exact absurd (show false = true from fx) Bool.false_ne_true
  | bl a =>
    cases ry
    cases x with
    | non => cases rx; exact SeqAt.EqAt.bool_none a
    | bl b => cases rx; exact SeqAt.EqAt.bool_bool a b
    | int b => obtain ⟨t, rfl⟩ := rx; exact SeqAt.EqAt.bool_int a b t
    | str b => obtain ⟨t, rfl⟩ := rx; exact SeqAt.EqAt.bool_str a b t
    | _ => exact absurd (show false = true from fx) Bool.false_ne_true
  | int a =>
    obtain ⟨t', rfl⟩ := ry
    cases x with
    | non => cases rx; exact SeqAt.EqAt.int_none a t'
    | bl b => cases rx; exact SeqAt.EqAt.int_bool a t' b
    | int b => obtain ⟨t, rfl⟩ := rx; exact SeqAt.EqAt.int_int a t' b t
    | str b => obtain ⟨t, rfl⟩ := rx; exact SeqAt.EqAt.int_str a t' b t
    | _ => exact absurd (show false = true from fx) Bool.false_ne_true
  | str a =>
    obtain ⟨t', rfl⟩ := ry
    cases x with
    | non => cases rx; exact SeqAt.EqAt.str_none a t'
    | bl b => cases rx; exact SeqAt.EqAt.str_bool a t' b
    | int b => obtain ⟨t, rfl⟩ := rx; exact SeqAt.EqAt.str_int a t' b t
    | str b => obtain ⟨t, rfl⟩ := rx; exact SeqAt.EqAt.str_str a t' b t
    | _ => exact absurd (show false = true from fx) Bool.false_ne_true
  | _ => exact absurd (show false = true from fy) Bool.false_ne_true
def eqU (x : V) (u : Value) : Bool := match u with
  | .none => eqV .non x
  | .bool b => eqV (.bl b) x
  | .int i _ => eqV (.int i) x
  | .str z _ => eqV (.str z) x
  | _ => false
theorem eqU_of {x y : V} {u : Value} (r : RelV y u) (f : flatV y = true) : eqU x u = eqV y x := by
  cases y with
  | non => cases r; rfl
  | bl b => cases r; rfl
  | int i => obtain ⟨t, rfl⟩ := r; rfl
  | str z => obtain ⟨t, rfl⟩ := r; rfl
  | _ => exact absurd (show false = true from f) Bool.false_ne_true
theorem any_eqU {x : V} : ∀ {xs : List V} {us : List Value}, Vals xs us → xs.all flatV = true → us.any (eqU x) = xs.any fun y => eqV y x
  | _, _, .nil, _ => rfl
  | y :: xs, u :: us, .cons r t, f => by
    rw [List.all_cons, Bool.and_eq_true] at f
    rw [List.any_cons, List.any_cons, eqU_of r f.1, any_eqU t f.2]
theorem mem_eqAt {A : Around} {s : Shared} {x : V} {v : Value} (rx : RelV x v) (fx : flatV x = true) : ∀ {xs : List V} {us : List Value}, Vals xs us → xs.all flatV = true → ∀ u ∈ us, SeqAt.EqAt A s u v (eqU x u)
  | _, _, .nil, _ => fun u hu => by cases hu
  | y :: xs, u :: us, .cons r t, f => fun u' hu => by
    rw [List.all_cons, Bool.and_eq_true] at f
    rcases List.mem_cons.mp hu with rfl | hu
    · rw [eqU_of r f.1]; exact eqAt_V r rx f.1 fx
    · exact mem_eqAt rx fx t f.2 u' hu
def inV (x : V) (xs : List V) : Bool := xs.any fun y => eqV y x
def rIn (K : PySem.W.Frag) (neg : Bool) : R2 := fun x y H Q => ∃ p xs, y = .ref p ∧ (SqL K H p xs ∨ SqT K H p xs) ∧ flatV x = true ∧ xs.all flatV = true ∧ Q (.bl (if neg then !inV x xs else inV x xs)) H
theorem op_in_seq : OpR X (compareOp .In) (rIn X.K false) := by
  intro pins s σ H x y v u Q I rx ry h
  obtain ⟨p, xs, rfl, hq, fx, fs, q⟩ := h
  cases ry
  rcases hq with hq | hq
  · obtain ⟨its, r, pl, hz⟩ := I.list hq
    refine SeqAt.in_listAt (eqU x) pl.isList (fun w hw => mem_eqAt rx fx r fs w (by simpa using hw)) ⟨.bl _, H, I, rfl, ?_⟩
    rw [show its.toArray.any (eqU x) = its.any (eqU x) by simp, any_eqU r fs]
    exact q
  · obtain ⟨its, r, pl, hz⟩ := I.tuple hq
    refine SeqAt.in_tupleAt (eqU x) pl (fun w hw => mem_eqAt rx fx r fs w (by simpa using hw)) ⟨.bl _, H, I, rfl, ?_⟩
    rw [show its.toArray.any (eqU x) = its.any (eqU x) by simp, any_eqU r fs]
    exact q
theorem op_notIn_seq : OpR X (compareOp .NotIn) (rIn X.K true) := by
  intro pins s σ H x y v u Q I rx ry h
  obtain ⟨p, xs, rfl, hq, fx, fs, q⟩ := h
  cases ry
  rcases hq with hq | hq
  · obtain ⟨its, r, pl, hz⟩ := I.list hq
    refine SeqAt.notIn_listAt (eqU x) pl.isList (fun w hw => mem_eqAt rx fx r fs w (by simpa using hw)) ⟨.bl _, H, I, rfl, ?_⟩
    rw [show its.toArray.any (eqU x) = its.any (eqU x) by simp, any_eqU r fs]
    exact q
  · obtain ⟨its, r, pl, hz⟩ := I.tuple hq
    refine SeqAt.notIn_tupleAt (eqU x) pl (fun w hw => mem_eqAt rx fx r fs w (by simpa using hw)) ⟨.bl _, H, I, rfl, ?_⟩
    rw [show its.toArray.any (eqU x) = its.any (eqU x) by simp, any_eqU r fs]
    exact q
theorem call_len_seq : CallR X (.builtin "len") (fun xs H Q => ∃ p ys, xs = [.ref p] ∧ (SqL X.K H p ys ∨ SqT X.K H p ys) ∧ Q (.int ys.length) H) := by
  intro pins s σ H xs us Q I r h
  obtain ⟨p, ys, rfl, hq, q⟩ := h
  obtain ⟨u, rfl, rx⟩ := vals1 r
  cases rx
  have hn := line63
  rcases hq with hq | hq
  · obtain ⟨its, r', pl, hz⟩ := I.list hq
    have hlen := r'.length
    exact Calls.call_len_list pl.isList (by simp only [List.size_toArray] <;> omega) ⟨.int ys.length, H, I.tok _, ⟨s.toks + 1, by rw [List.size_toArray, hlen]⟩, q⟩
  · obtain ⟨its, r', pl, hz⟩ := I.tuple hq
    have hlen := r'.length
    exact len_tuple pl (by simp only [List.size_toArray] <;> omega) ⟨.int ys.length, H, I.tok _, ⟨s.toks + 1, by rw [List.size_toArray, hlen]⟩, q⟩
theorem call_len_str : CallR X (.builtin "len") (fun xs H Q => ∃ z, xs = [.str z] ∧ z.length ≤ sizeLine ∧ Q (.int z.length) H) := by
  intro pins s σ H xs us Q I r h
  obtain ⟨z, rfl, hz, q⟩ := h
  obtain ⟨u, rfl, t, rfl⟩ := vals1 r
  have hn := line63
  exact len_str (by omega) ⟨.int z.length, H, I.tok _, ⟨_, rfl⟩, q⟩
theorem call_tuple_of : CallR X (.type "tuple") (fun xs H Q => ∃ p ys, xs = [.ref p] ∧ ((SqL X.K H p ys ∧ ∀ l, H l = none → Q (.ref l) (upd H l (.tup ys))) ∨ (SqT X.K H p ys ∧ Q (.ref p) H))) := by
  intro pins s σ H xs us Q I r h
  obtain ⟨p, ys, rfl, h⟩ := h
  obtain ⟨u, rfl, rx⟩ := vals1 r
  cases rx
  rcases h with ⟨hq, q⟩ | ⟨hq, q⟩
  · obtain ⟨its, r', pl, hz⟩ := I.list hq
    have hlen := r'.length
    refine call_tuple_list pl.isList (fun h' kp => ?_) (by simp only [List.size_toArray] <;> omega)
    have I1 : Inv X pins σ H { s with heap := h' } := I.kept (t' := s.toks) kp
    have I2 : Inv X pins σ (upd H h'.objs.size (.tup ys)) { s with heap := h'.push { cls := .type "tuple", data := .seq its.toArray } } :=
      I1.laid (t' := s.toks) (fun b o e => Heap.get?_push_of_some _ e) (Nat.le_refl _) (show ObjOk X.prog X.w _ _ _ (.tup ys) from ⟨hz, its, r', IsTupN.new _ _⟩)
    exact ⟨.ref h'.objs.size, _, I2, rfl, q _ (I1.hok.fresh (Nat.le_refl _))⟩
  · obtain ⟨its, r', pl, hz⟩ := I.tuple hq
    exact call_tuple_same pl ⟨.ref p, H, I, rfl, q⟩
def tyV (K : PySem.W.Frag) (T : String) (x : V) (H : Hp) : Prop := match x with
  | .str _ => T = "str"
  | .int _ => T = "int"
  | .ref p => (T = "list" ∧ ∃ xs, SqL K H p xs) ∨ (T = "tuple" ∧ ∃ o, K.lookup p = some o ∧ o.cls = .type "tuple" ∧ o.dict = none) ∨
      (T = "dict" ∧ ((∃ kvs, H p = some (.dK kvs)) ∨ ∃ kvs, H p = some (.dT kvs))) ∨ (T = "set" ∧ ∃ S n, H p = some (.set S n))
  | _ => False
theorem tyV_is {pins : List (Addr × Obj)} {σ : St} {H : Hp} {s : Shared} {T : String} {x : V} {v : Value} (I : Inv X pins σ H s) (r : RelV x v) (ty : tyV X.K T x H) :
    s.TypeIs v T ∧ ∀ a, v = .ref a → ∃ ob, s.heap.get? a = some ob ∧ ob.dict = none := by
  cases x with
  | str z =>
    obtain ⟨t, rfl⟩ := r
    cases (show T = "str" from ty)
    exact ⟨typeIs_str s z t, fun _ e => nomatch e⟩
  | int i =>
    obtain ⟨t, rfl⟩ := r
    cases (show T = "int" from ty)
    exact ⟨typeIs_int s i t, fun _ e => nomatch e⟩
  | ref p =>
    cases r
    rcases ty with ⟨rfl, xs, hq⟩ | ⟨rfl, o, hk, hc, hd⟩ | ⟨rfl, hk⟩ | ⟨rfl, S, n, hk⟩
    · obtain ⟨its, _, pl, _⟩ := I.list hq
      refine ⟨pl.isList.typeIs, fun a e => ?_⟩
      cases e
      obtain ⟨o, n, e, c, hd, _⟩ := pl
      exact ⟨o, e, hd⟩
    · refine ⟨⟨o, I.kIn p o hk, hc⟩, fun a e => ?_⟩
      cases e
      exact ⟨o, I.kIn _ o hk, hd⟩
    · have z : ∃ o, s.heap.get? p = some o ∧ o.ExactDict := by
        rcases hk with ⟨kvs, hk⟩ | ⟨kvs, hk⟩
        · obtain ⟨_, _, _, _, o, _, _, e, ex, _⟩ := I.hok p _ hk
          exact ⟨o, e, ex⟩
        · obtain ⟨_, _, _, _, o, _, _, e, ex, _⟩ := I.hok p _ hk
          exact ⟨o, e, ex⟩
      obtain ⟨o, e, ex⟩ := z
      refine ⟨⟨o, e, ex.1⟩, fun a e2 => ?_⟩
      cases e2
      exact ⟨o, e, ex.2.1⟩
    · obtain ⟨o, _, _, _, e, ex, _⟩ := I.hok p _ hk
      refine ⟨⟨o, e, ex.1⟩, fun a e2 => ?_⟩
      cases e2
      exact ⟨o, e, ex.2.1⟩
  | _ => exact False.elim ty
def tBM0 (K : PySem.W.Frag) (T : String) (r : V → List V → Hp → VK → Prop) (to : TE) : TE := fun σ H Q => to σ H fun x H1 => tyV K T x H1 ∧ r x [] H1 Q
def tBM (K : PySem.W.Frag) (T : String) (r : V → List V → Hp → VK → Prop) (to : TE) (t : TA) : TE := fun σ H Q => to σ H fun x H1 => tyV K T x H1 ∧ t σ H1 fun xs H2 => r x xs H2 Q
variable {o e : Expr} {es : List Expr} {to : TE} {t : TA} {name : Str} {apos cpos : Pos} {T id : String} {r : V → List V → Hp → VK → Prop}
theorem pe_bm0 (pa : PlainAttrs T) (slot : Slot T name id) (hty : typeOf (.builtin id) = pure (.type "method_descriptor")) (hm : MtR X id r) (ho : PE X o to)
    (hbase : attributeBase o name X.env (eval o X.env) = eval o X.env := by rfl) (hline : (apos.endLine == cpos.line) = true := by rfl) : PE X (.Call (.Attribute o name apos) [] [] cpos) (tBM0 X.K T r to) := by
  intro pins s σ H Q I h
  refine wpAny_Call_method0_late hbase hline (thn (ho pins s σ H _ I h) fun v s1 ⟨x, H1, I1, r1, ty, q1⟩ => ?_)
  obtain ⟨h1, h2⟩ := tyV_is I1 r1 ty
  exact ⟨T, id, pa, slot, hty, h1, h2, Calls.callWith_builtin rfl (PySem.evalArgs_none (hm pins s1 σ H1 x [] v [] Q I1 r1 .nil q1))⟩
theorem pe_bm (pa : PlainAttrs T) (slot : Slot T name id) (hty : typeOf (.builtin id) = pure (.type "method_descriptor")) (hm : MtR X id r) (ho : PE X o to) (ha : PA X (e :: es) t)
    (hbase : attributeBase o name X.env (eval o X.env) = eval o X.env := by rfl)
    (hfew : ((backTo cpos (starEach (e :: es) X.env)).all (fun x => !x.1) && (backToKw cpos (keywordEach [] X.env)).all (fun x => x.1.isSome)
      && decide ((e :: es).length + ([] : List Keyword).length + (if ([] : List Keyword).isEmpty then 0 else 1) < 30)) = true := by rfl)
    (hline : (apos.endLine == cpos.line) = true := by rfl) (hs : starEach (e :: es) X.env = (false, eval e X.env) :: starEach es X.env := by rfl) (hplain : (backTo cpos (starEach es X.env)).any (·.1) = false := by rfl) :
    PE X (.Call (.Attribute o name apos) (e :: es) [] cpos) (tBM X.K T r to t) := by
  intro pins s σ H Q I h
  refine wpAny_Call_method_late hbase hfew hline rfl (thn (ho pins s σ H _ I h) fun v s1 ⟨x, H1, I1, r1, ty, q1⟩ => ?_)
  obtain ⟨h1, h2⟩ := tyV_is I1 r1 ty
  refine ⟨T, id, pa, slot, hty, h1, h2, ?_⟩
  have hA := ha cpos pins s1 σ H1 _ I1 q1
  rw [hs] at hA ⊢
  refine Calls.callWith_builtin (by show (false || (backTo cpos (starEach es X.env)).any (·.1)) = false; rw [hplain] <;> rfl) (Calls.evalArgs_plain ?_)
  exact thn hA fun us s2 ⟨vs, H2, I2, r2, q2⟩ => hm pins s2 σ H2 x vs v us Q I2 r1 r2 q2
/- xs.append(e), list.index on a module's tuple .. are MtR facts of 06m -/
end
end L2
namespace L2
open PySem PySem.Spec PyProof.Rows
def MtM (X : Cx) (id : String) (r : V → List V → Hp → VK → Prop) : Prop :=
  ∀ (pins : List (Addr × Obj)) (s : Shared) (σ : St) (H : Hp) (x : V) (xs : List V) (v : Value) (us : List Value) (Q : VK), Inv X pins σ H s → RelV x v → Vals xs us → r x xs H Q →
    wpAny (model X.prog X.w) X.A (call (.builtin id) (v :: us)) (EP X pins σ Q) X.xe s
theorem Vals.one : ∀ {x : V} {us : List Value}, Vals [x] us → ∃ u, us = [u] ∧ RelV x u
  | _, _, .cons r .nil => ⟨_, rfl, r⟩
theorem Vals.zero : ∀ {us : List Value}, Vals [] us → us = []
  | _, .nil => rfl
theorem Vals.dropLast {xs : List V} {us : List Value} (h : Vals xs us) : Vals xs.dropLast us.dropLast := by
  induction h with
  | nil => exact .nil
  | cons r t ih =>
    cases t with
    | nil => exact .nil
    | cons q t' => exact .cons r ih
theorem Vals.rep {xs : List V} {us : List Value} (h : Vals xs us) : ∀ k : Nat, Vals (List.replicate k xs).flatten (List.replicate k us).flatten
  | 0 => .nil
  | k + 1 => by
    rw [List.replicate_succ, List.replicate_succ, List.flatten_cons, List.flatten_cons]
    exact Vals.append h (Vals.rep h k)
theorem erase_last {α : Type} (l : List α) : l.eraseIdx (l.length - 1) = l.dropLast := by
  induction l with
  | nil => rfl
  | cons a r ih =>
    cases r with
    | nil => rfl
    | cons b r =>
      have e : (a :: b :: r).length - 1 = ((b :: r).length - 1) + 1 := by
        have h1 : (a :: b :: r).length = r.length + 2 := rfl
        have h2 : (b :: r).length = r.length + 1 := rfl
        omega
      rw [e, List.eraseIdx_cons_succ, ih]
      all_goals rfl
theorem foldl_rep (its : List Value) : ∀ (k : Nat) (acc : List Value),
    List.foldl (fun x1 x2 => x1 ++ x2) acc.toArray (List.replicate k its.toArray) = (acc ++ (List.replicate k its).flatten).toArray
  | 0, acc => by simp
  | k + 1, acc => by
    have e : acc.toArray ++ its.toArray = (acc ++ its).toArray := by simp
    have e2 : (acc ++ its) ++ (List.replicate k its).flatten = acc ++ (List.replicate (k + 1) its).flatten := by
      rw [List.replicate_succ, List.flatten_cons, List.append_assoc]
    rw [← e2, ← foldl_rep its k (acc ++ its), ← e, List.replicate_succ, List.foldl_cons]
section
variable {X : Cx} {pins : List (Addr × Obj)} {σ : St} {H : Hp} {s : Shared} {l b : Addr} {xs ys zs : List V}
theorem Inv.lset {its its' : List Value} {n : Nat} {f : Array Value → Array Value} {t' : Nat} (I : Inv X pins σ H s) (hH : H l = some (.lst xs))
    (e : s.heap.get? l = some { cls := .type "list", data := .seq its.toArray n }) (hf : f its.toArray = its'.toArray) (hv : Vals ys its') (hz : ys.length ≤ sizeLine) :
    Inv X pins σ (upd H l (.lst ys)) { s with heap := s.heap.update l (Obj.mapSeq f), toks := t' } := by
  have q := PySem.IsL.update e f
  rw [hf] at q
  refine I.write (x := l) (e := l) (by rw [hH]; exact trivial) (.inl rfl) (fun b' u hb hu => (Heap.get?_update_other s.heap (Obj.mapSeq f) (Ne.symm hb)).trans hu) ⟨_, q⟩ ?_
  exact ⟨hz, its', _, hv, q⟩
theorem Inv.lnew {its : List Value} {t' : Nat} (I : Inv X pins σ H s) (hv : Vals ys its) (hz : ys.length ≤ sizeLine) :
    Inv X pins σ (upd H s.heap.objs.size (.lst ys)) { s with heap := s.heap.push { cls := .type "list", data := .seq its.toArray }, toks := t' } :=
  I.laid (fun _ _ q => Heap.get?_push_of_some _ q) (Nat.le_refl _) ⟨hz, its, 0, hv, Heap.get?_push_size _ rfl⟩
theorem Inv.fresh (I : Inv X pins σ H s) : H s.heap.objs.size = none := I.hok.fresh (Nat.le_refl _)
theorem Inv.lstM (I : Inv X pins σ H s) (hH : H l = some (.lst xs)) : xs.length ≤ sizeLine ∧ ∃ (its : List Value) (n : Nat), Vals xs its ∧ xs.length = its.length ∧ s.heap.get? l = some { cls := .type "list", data := .seq its.toArray n } := by
  obtain ⟨z, its, n, r, e⟩ := I.hok l _ hH
  exact ⟨z, its, n, r, r.length, e⟩
theorem notLongL {n : Nat} (h : n ≤ sizeLine) : Builtin.List.listTooLong n = false := by
  unfold Builtin.List.listTooLong
  exact decide_eq_false (by omega)
end
section
variable {X : Cx}
def rAppend : V → List V → Hp → VK → Prop := fun x vs H Q => ∃ l xs y, x = .ref l ∧ vs = [y] ∧ H l = some (.lst xs) ∧ xs.length < sizeLine ∧ Q .non (upd H l (.lst (xs ++ [y])))
theorem mt_append : MtM X "list.append" rAppend := by
  intro pins s σ H x vs v us Q I rx rv h
  obtain ⟨l, xs, y, rfl, rfl, hH, hz, q⟩ := h
  cases rx
  obtain ⟨u, rfl, ru⟩ := rv.one
  obtain ⟨z, its, n, r, hl, e⟩ := I.lstM hH
  refine call_meets F.slot_list_append ⟨_, e, rfl⟩ F.entry_list_append (F.args_list_append_2 _ _) (PySem.list_append l its.toArray n u (by rw [List.size_toArray]; omega)) ⟨e, ?_⟩
  refine ⟨.non, _, I.lset (its' := its ++ [u]) hH e (by simp) (r.append (.cons ru .nil)) ?_, rfl, q⟩
  rw [List.length_append, List.length_singleton]
  omega
def rExtend : V → List V → Hp → VK → Prop := fun x vs H Q => ∃ l b xs zs, x = .ref l ∧ vs = [.ref b] ∧ H l = some (.lst xs) ∧ H b = some (.lst zs) ∧ xs.length + zs.length ≤ sizeLine ∧ Q .non (upd H l (.lst (xs ++ zs)))
theorem mt_extend : MtM X "list.extend" rExtend := by
  intro pins s σ H x vs v us Q I rx rv h
  obtain ⟨l, b, xs, zs, rfl, rfl, hH, hB, hz, q⟩ := h
  cases rx
  obtain ⟨u, rfl, ru⟩ := rv.one
  cases ru
  obtain ⟨z, its, n, r, hl, e⟩ := I.lstM hH
  obtain ⟨z2, its2, n2, r2, hl2, e2⟩ := I.lstM hB
  have hsz : its.toArray.size + its2.toArray.size ≤ sizeLine := by rw [List.size_toArray, List.size_toArray]; omega
  have hlong : ¬ (!its.toArray.isEmpty && Builtin.List.listTooLong (its.toArray.size + its2.toArray.size)) = true := by
    rw [notLongL hsz, Bool.and_false]
    exact Bool.false_ne_true
  refine call_meets F.slot_list_extend ⟨_, e, rfl⟩ F.entry_list_extend (F.args_list_extend_2 _ _)
    (AutoSeq1.list_extend_list_list_0 l its.toArray n b its2.toArray n2 hlong (by rw [List.size_toArray]; omega) (by omega)) ⟨e, e2, ?_⟩
  refine ⟨.non, _, I.lset (its' := its ++ its2) hH e (by simp) (r.append r2) ?_, rfl, q⟩
  rw [List.length_append]
  omega
def rPop : V → List V → Hp → VK → Prop := fun x vs H Q => ∃ l xs y, x = .ref l ∧ vs = [] ∧ H l = some (.lst xs) ∧ xs[xs.length - 1]? = some y ∧ Q y (upd H l (.lst xs.dropLast))
theorem mt_pop : MtM X "list.pop" rPop := by
  intro pins s σ H x vs v us Q I rx rv h
  obtain ⟨l, xs, y, rfl, rfl, hH, hy, q⟩ := h
  cases rx
  have hus := rv.zero
  subst hus
  obtain ⟨z, its, n, r, hl, e⟩ := I.lstM hH
  obtain ⟨u, hu, ru⟩ := r.get hy
  have hy' : its.toArray[its.toArray.size - 1]? = some u := by
    show its.toArray[its.length - 1]? = some u
    rw [← Array.getElem?_toList, ← hl]
    exact hu
  refine call_meets F.slot_list_pop ⟨_, e, rfl⟩ F.entry_list_pop (F.args_list_pop_1 _) (MeetsSeq.list_pop_last l its.toArray n u hy' (by rw [List.size_toArray]; omega)) ⟨e, ?_⟩
  refine ⟨y, _, I.lset (its' := its.dropLast) hH e ?_ r.dropLast ?_, ru, q⟩
  · show its.toArray.eraseIdxIfInBounds (its.toArray.size - 1) = its.dropLast.toArray
    rw [List.size_toArray, List.eraseIdxIfInBounds_toArray, erase_last]
  · rw [List.length_dropLast]
    omega
def rPopAt : V → List V → Hp → VK → Prop := fun x vs H Q => ∃ l xs i k y, x = .ref l ∧ vs = [.int i] ∧ H l = some (.lst xs) ∧ -(2 ^ 63) ≤ i ∧ i < 2 ^ 63 ∧ seqIndex? i xs.length = some k ∧ xs[k]? = some y ∧ Q y (upd H l (.lst (xs.eraseIdx k)))
def rReverse : V → List V → Hp → VK → Prop := fun x vs H Q => ∃ l xs, x = .ref l ∧ vs = [] ∧ H l = some (.lst xs) ∧ Q .non (upd H l (.lst xs.reverse))
def rClear : V → List V → Hp → VK → Prop := fun x vs H Q => ∃ l xs, x = .ref l ∧ vs = [] ∧ H l = some (.lst xs) ∧ Q .non (upd H l (.lst []))
def rCat : R2 := fun x y H Q => ∃ l b xs zs, x = .ref l ∧ y = .ref b ∧ H l = some (.lst xs) ∧ H b = some (.lst zs) ∧ xs.length + zs.length ≤ sizeLine ∧ ∀ p, H p = none → Q (.ref p) (upd H p (.lst (xs ++ zs)))
theorem op_cat : OpR X (binaryOp .Add) rCat := by
  intro pins s σ H x y v u Q I rx ry h
  obtain ⟨l, b, xs, zs, rfl, rfl, hH, hB, hz, q⟩ := h
  cases rx
  cases ry
  obtain ⟨z, its, n, r, hl, e⟩ := I.lstM hH
  obtain ⟨z2, its2, n2, r2, hl2, e2⟩ := I.lstM hB
  refine PySem.P.add_list e e2 ?_ (by rw [List.size_toArray, List.size_toArray]; omega)
  have ea : its.toArray ++ its2.toArray = (its ++ its2).toArray := by simp
  rw [ea]
  exact ⟨.ref _, _, I.lnew (t' := s.toks) (r.append r2) (by rw [List.length_append]; omega), rfl, q _ I.fresh⟩
def rRep : R2 := fun x y H Q => ∃ l k xs, x = .ref l ∧ y = .int k ∧ H l = some (.lst xs) ∧ -(2 ^ 63) ≤ k ∧ k < 2 ^ 63 ∧ xs.length * k.toNat ≤ sizeLine ∧
  ∀ p, H p = none → Q (.ref p) (upd H p (.lst (List.replicate k.toNat xs).flatten))
theorem len_rep {α : Type} (xs : List α) (k : Nat) : (List.replicate k xs).flatten.length = k * xs.length := by
  induction k with
  | zero => simp
  | succ k ih => rw [List.replicate_succ, List.flatten_cons, List.length_append, ih, Nat.succ_mul, Nat.add_comm]
theorem op_rep : OpR X (binaryOp .Mult) rRep := by
  intro pins s σ H x y v u Q I rx ry h
  obtain ⟨l, k, xs, rfl, rfl, hH, h1, h2, hz, q⟩ := h
  cases rx
  obtain ⟨t, rfl⟩ := ry
  obtain ⟨z, its, n, r, hl, e⟩ := I.lstM hH
  have hlen : its.toArray.size * k.toNat ≤ sizeLine := by rw [List.size_toArray, ← hl]; exact hz
  have hcap : ¬ its.toArray.size * k.toNat > (2 ^ 63 - 1) / 8 := by
    have : (sizeLine : Nat) ≤ (2 ^ 63 - 1) / 8 := by decide
    omega
  have hfit : ¬ (!Builtin.List.listFitsIndex k) = true := by
    rw [fitsIndex_both h1 h2]
    exact Bool.false_ne_true
  have hlong : ¬ Builtin.List.listTooLong (its.toArray.size * k.toNat) = true := by
    rw [notLongL hlen]
    exact Bool.false_ne_true
  have hnew : List.foldl (fun x1 x2 => x1 ++ x2) #[] (List.replicate (if its.toArray.isEmpty = true then 0 else k.toNat) its.toArray) = (List.replicate k.toNat its).flatten.toArray := by
    have f0 : ∀ m : Nat, List.foldl (fun x1 x2 => x1 ++ x2) #[] (List.replicate m its.toArray) = (List.replicate m its).flatten.toArray := fun m => by
      have := foldl_rep its m []
      rw [List.nil_append] at this
      exact this
    rw [f0]
    cases its with
    | nil => simp
    | cons a r' => rw [if_neg (by simp)]
  refine wpAny_binaryOp_repeat_ref (T := "list") (U := "int") (by decide) ⟨_, e, rfl⟩ (fun s' => typeIs_int s' k t) noFill_list_mul F.fills_int_mul F.slot_int_rmul repeat_list F.slot_int_index.lookup
    (call_meets F.slot_int_rmul (typeIs_int s k t) F.entry_int_rmul (F.args_int_rmul_2 _ _) (int___rmul___int_list k t l its.toArray n)
      ⟨e, rfl, ⟨_, e, rfl⟩, call_meets F.slot_list_mul ⟨_, e, rfl⟩ F.entry_list_mul (F.args_list_mul_2 _ _) (AutoListH.list___mul___list_int_3 l its.toArray n k t hfit hcap hlong) ⟨e, ?_⟩⟩)
  rw [hnew]
  exact ⟨.ref _, _, I.lnew (t' := s.toks) (r.rep k.toNat) (by rw [len_rep, Nat.mul_comm]; exact hz), rfl, q _ I.fresh⟩
end
section
variable {prog : Program} {w : World} {A : Around} {E : Value → Shared → Prop} {s : Shared}
theorem bounds_run {a c n : Nat} (hac : a ≤ c) (hc : c ≤ n) : sliceBounds (some (a : Int)) (some (c : Int)) none n = ((a : Int), (c : Int), 1) := by
  simp only [sliceBounds, Option.getD_none]
  have h1 : ¬ ((a : Int) < 0) := by omega
  have h2 : ¬ ((c : Int) < 0) := by omega
  simp only [h1, h2, if_false, show (1 : Int) > 0 by decide, if_true]
  congr 1
  · omega
  · congr 1; omega
set_option maxRecDepth 100000 in
theorem setItem_slice {l b sl : Addr} {items new : Array Value} {n n2 : Nat} {vl vu : Value} {a c : Nat} {Q : Unit → Shared → Prop}
    (e : s.heap.get? l = some { cls := .type "list", data := .seq items n }) (e2 : s.heap.get? b = some { cls := .type "list", data := .seq new n2 }) (hne : l ≠ b)
    (hs : s.heap.IsSliceOf sl vl vu .none) (pl : IsPart vl (some (a : Int))) (pu : IsPart vu (some (c : Int))) (hac : a ≤ c) (hc : c ≤ items.size)
    (hsz : items.size + new.size ≤ sizeLine) (h : Q () { s with heap := s.heap.update l (Obj.mapSeq fun xs => xs.extract 0 a ++ new ++ xs.extract c xs.size) }) :
    wpAny (model prog w) A (setItem (.ref l) (.ref sl) (.ref b)) Q E s := by
  have hl : s.heap.IsList l items := PySem.IsL.isList e
  have hb : s.heap.IsList b new := PySem.IsL.isList e2
  obtain ⟨os, hos, hcs, hds⟩ := id hs
  have hTs : s.TypeIs (.ref sl) "slice" := ⟨os, hos, hcs⟩
  have hstep : ¬ ((rawPart none == rawInt 0) = true) := Bool.false_ne_true
  have hsame : Builtin.List.listSameRef (.ref l) (.ref b) = false := by
    unfold Builtin.List.listSameRef
    exact beq_eq_false_iff_ne.mpr hne
  have hmax : (max (a : Int) (c : Int)).toNat = c := by omega
  have hz' : ((fun xs : Array Value => xs.extract 0 a ++ new ++ xs.extract c xs.size) items).size ≤ sizeLine + 1 := by
    simp only [Array.size_append, Array.size_extract]
    omega
  unfold setItem
  try with_reducible refine wpAny_holding ?_
  first | refine wpAny_bind (wpAny_pure ?_) | skip
  refine wpAny_bind (wpAny_sequenceKey hl.typeIs (by decide) ?_)
  refine wpAny_bind (wpAny_callSpecial?_slot (name := Str.ofString "__setitem__") hl.typeIs slot_list_setitem
    (wpAny_call_entry slot_list_setitem hl.typeIs entry_list_setitem ?_ (args_list_setitem _ _ _)))
  show wpAny _ _ (Builtin.List.listSubscript? (.ref sl) >>= _) _ _ s
  refine wpAny_bind ?_
  unfold Builtin.List.listSubscript?
  refine wpAny_bind (wpAny_specialOf hTs slice_no_index ?_)
  simp only [Option.isNone_none, if_true]
  refine wpAny_pure ?_
  show wpAny _ _ (typeOf (.ref sl) >>= _) _ _ s
  refine wpAny_bind (wpAny_typeOf hTs ?_)
  first
    | rw [if_neg (by decide)]
    | refine PySem.W.KFB.if_not (by decide) ?_
  rw [listSliceParts_eq]
  refine wpAny_bind (wpAny_bind (wpAny_field hos hds (x := .none) rfl (wpAny_bind (wpAny_listPart .none ?_))))
  rw [if_neg hstep]
  refine wpAny_bind (wpAny_field hos hds (x := vl) rfl (wpAny_bind (wpAny_listPart pl ?_)))
  refine wpAny_bind (wpAny_field hos hds (x := vu) rfl (wpAny_bind (wpAny_listPart pu (wpAny_pure ?_))))
  first
    | simp only [hsame, Bool.false_eq_true, if_false]
    | refine PySem.W.KFB.if_not hsame ?_
    | (dsimp only
       rw [if_neg (by rw [hsame]; exact Bool.false_ne_true)])
  refine wpAny_bind (m := Builtin.List.listAllItems (.ref b) "must assign iterable to extended slice") ?_
  unfold Builtin.List.listAllItems
  refine wpAny_bind (wpAny_typeOf hb.typeIs ?_)
  first
    | refine PySem.W.KFB.if_so (by decide) ?_
    | rw [if_pos (by decide)]
    | simp only [beq_self_eq_true, Bool.true_or, if_true]
  unfold Builtin.List.listItems
  refine wpAny_bind (wpAny_seqItems e2 rfl (wpAny_pure ?_))
  refine wpAny_bind (wpAny_bind (wpAny_seqItems e rfl (wpAny_pure ?_)))
  refine wpAny_bind (wpAny_of_eq ((sliceIndices_raw (some (a : Int)) (some (c : Int)) none items.size (by simp)).trans (congrArg (pure : Int × Int × Int → Sem (Int × Int × Int)) (bounds_run hac hc))) ?_)
  show wpAny _ _ (if ((1 : Int) == 1) = true then _ else _) _ _ s
  rw [if_pos (by decide)]
  refine wpAny_bind (wpAny_rule ?_)
  first
    | simp only [notLongL hsz, Bool.false_eq_true, if_false]
    | refine PySem.W.KFB.if_not (notLongL hsz) ?_
  first | refine wpAny_bind (wpAny_pure ?_) | skip
  show wpAny _ _ (updateSeq l (fun xs => xs.extract 0 ((a : Int)).toNat ++ new ++ xs.extract (max (a : Int) (c : Int)).toNat xs.size) >>= _) _ _ s
  rw [hmax, Int.toNat_natCast]
  refine wpAny_bind (wpAny_updateSeq (hz := Nat.le_trans (Nat.le_add_right _ _) hsz) (_hz' := hz') e rfl ?_)
  refine wpAny_bind (wpAny_letGo ?_)
  first
    | exact wpAny_bind (wpAny_pure (wpAny_pure ⟨.none, rfl, wpAny_pure h⟩))
    | exact wpAny_pure ⟨.none, rfl, wpAny_pure h⟩
end
section
variable {X : Cx}
end
end L2
namespace L2
open PySem PySem.Spec PyProof.Rows
section
variable {κ : Type} [DecidableEq κ]
def valV (kvs : List (κ × V)) (k : κ) : Option V := (kvs.find? fun kv => decide (kv.1 = k)).map (·.2)
def putK (kvs : List (κ × V)) (k : κ) (v : V) : List (κ × V) :=
  if (kvs.any fun kv => decide (kv.1 = k)) = true then kvs.map (fun kv => if kv.1 = k then (kv.1, v) else kv) else kvs ++ [(k, v)]
def dropK (kvs : List (κ × V)) (k : κ) : List (κ × V) := kvs.filter fun kv => decide (kv.1 ≠ k)
end
abbrev KT (H : Hp) : List (List Key × V) → List (List Key × Addr × Value) → Prop := Paired fun p q => p.1 = q.1 ∧ H q.2.1 = some (.tup (p.1.map kV)) ∧ RelV p.2 q.2.2
section
variable {P : Program} {w : World} {H : Hp} {h : Heap} {a : Addr}
end
def DGet (H : Hp) (a : Addr) (y : V) (r : Option V) : Prop :=
  (∃ kvs k, Rd H a (.dK kvs) ∧ y = kV k ∧ r = valV kvs k) ∨ ∃ kvs k b, Rd H a (.dT kvs) ∧ y = .ref b ∧ H b = some (.tup (k.map kV)) ∧ r = valV kvs k
def DPut (H : Hp) (a : Addr) (y v : V) (H' : Hp) : Prop :=
  (∃ kvs k, H a = some (.dK kvs) ∧ y = kV k ∧ kvs.length < sizeLine ∧ H' = upd H a (.dK (putK kvs k v))) ∨
  ∃ kvs k b, H a = some (.dT kvs) ∧ y = .ref b ∧ H b = some (.tup (k.map kV)) ∧ kvs.length < sizeLine ∧ H' = upd H a (.dT (putK kvs k v))
section
variable {X : Cx} {pins : List (Addr × Obj)} {σ : St} {H : Hp} {s : Shared} {a : Addr} {y v : V} {u r : Value} {o : Option V} {A : Around} {E : Value → Shared → Prop}
theorem Inv.big (I : Inv X pins σ H s) : sysModules < s.heap.objs.size := by
  have h : mainGlobals < s.heap.objs.size := (I.mod.glob.keeps I.bk).lt
  exact Nat.lt_trans (by decide) h
end
section
variable {X : Cx} {pins : List (Addr × Obj)} {σ : St} {H : Hp} {s : Shared} {a : Addr} {kvs : List (Key × V)} {k : Key} {u : Value} {A : Around} {E : Value → Shared → Prop}
end
def NoSl (i : Expr) : Prop := ∀ ov iv, subscripted i false ov iv = operate [ov, iv] (getItem ov iv)
def tDGet (td ty : TE) : TE := fun σ H Q => td σ H fun x H1 => ty σ H1 fun y H2 => ∃ a v, x = .ref a ∧ DGet H2 a y (some v) ∧ Q v H2
def tDIn (ty td : TE) : TE := fun σ H Q => ty σ H fun y H1 => td σ H1 fun x H2 => ∃ a o, x = .ref a ∧ DGet H2 a y o ∧ Q (.bl o.isSome) H2
def tDNotIn (ty td : TE) : TE := fun σ H Q => ty σ H fun y H1 => td σ H1 fun x H2 => ∃ a o, x = .ref a ∧ DGet H2 a y o ∧ Q (.bl (!o.isSome)) H2
def sDPut (td ty tv : TE) : TS := fun D σ H => tv σ H fun v H1 => td σ H1 fun x H2 => ty σ H2 fun y H3 => ∃ a H4, x = .ref a ∧ DPut H3 a y v H4 ∧ D.nx σ H4
def sDAug (td ty tv : TE) (rd : V → V → Hp → VK → Prop) : TS := fun D σ H => td σ H fun x H1 => ty σ H1 fun y H2 => ∃ a v, x = .ref a ∧ DGet H2 a y (some v) ∧
  tv σ H2 fun y2 H3 => rd v y2 H3 fun z H4 => ∃ H5, DPut H4 a y z H5 ∧ D.nx σ H5
def sDDel (td ty : TE) : TS := fun D σ H => td σ H fun x H1 => ty σ H1 fun y H2 => ∃ a kvs k, x = .ref a ∧ H2 a = some (.dK kvs) ∧ y = kV k ∧ (valV kvs k).isSome = true ∧ D.nx σ (upd H2 a (.dK (dropK kvs k)))
section
variable {X : Cx} {o i e value : Expr} {pos pos' tpos : Pos} {td ty tv : TE}
end
theorem dk_empty {P : Program} {w : World} {H : Hp} (h : Heap) (hb : sysModules < h.objs.size) : ObjOk P w H (h.push { cls := .type "dict", data := .dict #[] }) h.objs.size (.dK []) :=
  ⟨Nat.zero_le _, beq_eq_false_iff_ne.mpr (Ne.symm (Nat.ne_of_lt hb)), [], .nil, Heap.DictOf.new h⟩
def tDNewK : TE := fun _ H Q => ∀ p, H p = none → Q (.ref p) (upd H p (.dK []))
def tDNewT : TE := fun _ H Q => ∀ p, H p = none → Q (.ref p) (upd H p (.dT []))
section
variable {X : Cx} {pos : Pos}
theorem pe_dnewK : PE X (.Dict [] [] pos) tDNewK := fun pins s σ H Q I h =>
  wpAny_Dict_empty ⟨.ref s.heap.objs.size, _, I.laid (a := s.heap.objs.size) (o := .dK []) (t' := s.toks) (fun _ _ q => Heap.get?_push_of_some _ q) (Nat.le_refl _) (dk_empty s.heap I.big), rfl, h _ (I.hok.fresh (Nat.le_refl _))⟩
end
def tPairs : List (TE × TE) → St → Hp → (List (V × V) → Hp → Prop) → Prop
  | [], _, H, Q => Q [] H
  | (tk, tv) :: r, σ, H, Q => tk σ H fun x H1 => tv σ H1 fun y H2 => tPairs r σ H2 fun ps H3 => Q ((x, y) :: ps) H3
abbrev VV : List (V × V) → List (Value × Value) → Prop := Paired fun p q => RelV p.1 q.1 ∧ RelV p.2 q.2
def PPs (X : Cx) (pos : Pos) (keys : List (Option Expr)) (values : List Expr) (trs : List (TE × TE)) : Prop :=
  ∀ (pins : List (Addr × Obj)) (s : Shared) (σ : St) (H : Hp) (Q : List (V × V) → Hp → Prop), Inv X pins σ H s → tPairs trs σ H Q →
    wpAny (model X.prog X.w) X.A (evalPairs (pairTrees keys values X.env pos)) (fun vs s' => ∃ ps H', Inv X pins σ H' s' ∧ VV ps vs ∧ Q ps H') X.xe s
def mergeK (kvs more : List (Key × V)) : List (Key × V) := more.foldl (fun acc kv => putK acc kv.1 kv.2) kvs
def tDisp (trs : List (TE × TE)) : TE := fun σ H Q => ∀ p, H p = none → tPairs trs σ (upd H p (.dK [])) fun ps H2 => H2 p = some (.dK []) ∧ ∃ kvs : List (Key × V), ps = kvs.map (fun kv => (kV kv.1, kv.2)) ∧ kvs.length ≤ 15 ∧ Q (.ref p) (upd H2 p (.dK (mergeK [] kvs)))
structure M1 (X : Cx) (o : Expr) (m : Str) (apos : Pos) (e : Expr) (cpos : Pos) : Prop where
  base : attributeBase o m X.env (eval o X.env) = eval o X.env
  few : ((backTo cpos (starEach [e] X.env)).all (fun x => !x.1) && (backToKw cpos (keywordEach [] X.env)).all (fun x => x.1.isSome)
    && decide (([e] : List Expr).length + ([] : List Keyword).length + (if ([] : List Keyword).isEmpty then 0 else 1) < 30)) = true
  line : (apos.endLine == cpos.line) = true
  trees : backTo cpos (starEach [e] X.env) = [(false, eval e X.env)]
structure M2 (X : Cx) (o : Expr) (m : Str) (apos : Pos) (e f : Expr) (cpos : Pos) : Prop where
  base : attributeBase o m X.env (eval o X.env) = eval o X.env
  few : ((backTo cpos (starEach [e, f] X.env)).all (fun x => !x.1) && (backToKw cpos (keywordEach [] X.env)).all (fun x => x.1.isSome)
    && decide (([e, f] : List Expr).length + ([] : List Keyword).length + (if ([] : List Keyword).isEmpty then 0 else 1) < 30)) = true
  line : (apos.endLine == cpos.line) = true
  trees : backTo cpos (starEach [e, f] X.env) = [(false, eval e X.env), (false, eval f X.env)]
def IsD (H : Hp) (a : Addr) : Prop := (∃ kvs, Rd H a (.dK kvs)) ∨ ∃ kvs, Rd H a (.dT kvs)
section
variable {X : Cx} {pins : List (Addr × Obj)} {σ : St} {H : Hp} {s : Shared} {a : Addr} {y d : V} {u r : Value} {o : Option V} {A : Around} {E : Value → Shared → Prop}
end
def tDGet1 (td ty : TE) : TE := fun σ H Q => td σ H fun x H1 => ∃ a, x = .ref a ∧ IsD H1 a ∧ ty σ H1 fun y H2 => ∃ o, DGet H2 a y o ∧ Q (o.getD .non) H2
def tDGet2 (td ty tx : TE) : TE := fun σ H Q => td σ H fun x H1 => ∃ a, x = .ref a ∧ IsD H1 a ∧ ty σ H1 fun y H2 => tx σ H2 fun z H3 => ∃ o, DGet H3 a y o ∧ Q (o.getD z) H3
def tDPop1 (td ty : TE) : TE := fun σ H Q => td σ H fun x H1 => ∃ a, x = .ref a ∧ IsD H1 a ∧ ty σ H1 fun y H2 => ∃ kvs k v, H2 a = some (.dK kvs) ∧ y = kV k ∧ valV kvs k = some v ∧ Q v (upd H2 a (.dK (dropK kvs k)))
def tDPop2 (td ty tx : TE) : TE := fun σ H Q => td σ H fun x H1 => ∃ a, x = .ref a ∧ IsD H1 a ∧ ty σ H1 fun y H2 => tx σ H2 fun z H3 => ∃ kvs k, H3 a = some (.dK kvs) ∧ y = kV k ∧
  (∀ v, valV kvs k = some v → Q v (upd H3 a (.dK (dropK kvs k)))) ∧ (valV kvs k = none → Q z H3)
section
variable {X : Cx} {o e f : Expr} {apos cpos : Pos} {td ty tx : TE}
end
section
variable {X : Cx} {pins : List (Addr × Obj)} {σ : St} {H : Hp} {s : Shared} {a : Addr} {kvs : List (Key × V)} {A : Around} {E : Value → Shared → Prop}
end
section
variable {X : Cx} {pins : List (Addr × Obj)} {σ : St} {H : Hp} {s : Shared} {a : Addr} {y : V} {u : Value} {A : Around} {E : Value → Shared → Prop}
end
end L2
namespace Att
open PySem PySem.W PySem.Calls PyProof.Rows
theorem ints_of_wellAll {P : Params} {h : Heap} : ∀ (ns : List Int) (vs : List Value), WellAll P h vs (ns.map WData.int) → IntsAre vs ns := by
  intro ns
  induction ns with
  | nil =>
    intro vs w
    rw [List.map_nil] at w
    cases w
    exact .nil
  | cons n ns ih =>
    intro vs w
    rw [List.map_cons] at w
    cases w with
    | cons a b =>
      cases a
      exact .cons _ _ (ih _ b)
theorem script_of {l : OpenLaw} {n : Nat} (hn : l.most = some n) {P : Params} {h : Heap} {args : List WData} {vals : List Value}
    (hpre : l.row.toRowW.claim.pre args = true) (hwl : WellAll P h vals args) :
    ∃ a vs ns, vals = [Value.ref a] ∧ args = [WData.list (ns.map WData.int)] ∧ h.get? a = some { cls := .type "list", data := .seq vs.toArray } ∧ IntsAre vs ns ∧ ns.length ≤ n := by
  have hsh : WShape.hasAll [] args [.list .int] = true := (pre_splitW hpre).1
  have hc : l.pre.holds [] { args := args } = true := (pre_splitW hpre).2
  obtain ⟨d, r, rfl, h1, h2⟩ := hasAllW_cons hsh
  obtain rfl := hasAllW_nil h2
  obtain ⟨xs, rfl, h3⟩ := hasW_list h1
  obtain ⟨ns, rfl⟩ := items_int h3
  have hlen : ns.length ≤ n := by
    unfold OpenLaw.pre at hc
    have h4 : (WTm.not (.lt (.lit (.int (n : Int))) (.len (.arg 0)))).holds [] { args := [.list (ns.map .int)] } = true := by
      have h4 := (holds_andW hc).1
      rw [hn] at h4
      exact h4
    have h5 := condW_of h4 (w_not (w_lt w_lit (w_len_list (w_arg rfl))))
    rw [List.length_map] at h5
    refine Nat.le_of_not_lt fun q => ?_
    have q' : (n : Int) < ((ns.length : Nat) : Int) := by omega
    first
      | (rw [decide_eq_true q'] at h5; exact absurd h5 (by decide))
      | (simp at h5; omega)
  cases hwl with
  | cons w1 w2 =>
    cases w2
    cases w1 with
    | list ho hall => exact ⟨_, _, ns, rfl, rfl, ho, ints_of_wellAll ns _ hall, hlen⟩
theorem post_true (l : OpenLaw) (args : List WData) : l.row.toRowW.claim.post args (.bool true) args = true :=
  postW_of (r := l.row.toRowW) (X := (true == true))
    (show WShape.has [] (.bool true) .bool = true by first | rfl | decide | simp [WShape.has, WShape.arms, WShape.armsAll])
    (show (WTm.eq .res (.lit (.bool true))).value [] { args := args, res := some (.bool true), after := args } = some (.bool (true == true)) from w_eq_bool (w_res rfl) w_lit) rfl
theorem attach_call {l : OpenLaw} {n : Nat} {q : Program} {loose : List Str} {XP : (Str → Option Value) → Heap → Prop} {YP : World → Heap → Prop} {d : DefRec}
    (hn : l.most = some n) (hdf : d.params.defaults = [])
    (call : ∀ (w : World) (s₀ s₁ : Shared) (mg mb : Str → Option Value) (fa : Addr) (o : Obj) (pm cd doc : Value) (a : Addr) (vs : List Value) (ns : List Int),
      Ground q loose [] XP w s₀ mg mb s₁.heap → YP w s₁.heap →
      s₁.heap.get? fa = some o → o.data = .func (docDef d.name d.params d.body d.scope pm cd doc) → s₁.heap.CodeRec cd d.name → mg d.name = some (.ref fa) →
      s₁.heap.get? a = some { cls := .type "list", data := .seq vs.toArray } → IntsAre vs ns → ns.length ≤ n → s₁.gens = #[] →
      codeAny (model l.prog w) callerA (.call (.ref fa) ⟨[.ref a], []⟩) (fun r s' => r = .ok (.ret (.bool true)) ∧ OldK s₁.heap s'.heap ∧ s'.os = s₁.os ∧ AllBare s'.gens) s₁) :
    WalkO q loose XP YP l.row.toRowW d [] (fun f vs => PySem.call f vs) := by
  intro w s₀ s₁ mg mb G Y fa o pm cd doc dV kV ho hd hcd hD hmg hg args vals as hpre hlay hrd hwl hlo
  obtain rfl : dV = .none := Dflts.none hD hdf
  obtain rfl : kV = .none := Dflts.noKw hD
  obtain ⟨a, vs, ns, rfl, rfl, hobj, hints, hlen⟩ := script_of hn hpre hwl
  refine enter_call (codeAny_mono (call w s₀ s₁ mg mb fa o pm cd doc a vs ns G Y ho (fd_plain hd) hcd hmg hobj hints hlen hg) fun r s' hq => ?_)
  obtain ⟨rfl, h2, h3, h4⟩ := hq
  exact ⟨.inl ⟨.bool true, .bool true, [], rfl, fun _ => rfl, .bool true, post_true l _, fun _ => ⟨List.Pairwise.nil, fun _ hm => (nomatch hm)⟩⟩, h2, h3, h4⟩
section
variable {prog : Program} {w : World} {A : Around} {E : Value → Shared → Prop} {s : Shared} {K : Frag}
def noObjs (h : Heap) : Heap := { h with objs := #[] }
def ledger (h : Heap) (L d : Addr) : List (Addr × Obj) := (List.range h.objs.size).filterMap fun a => if a = L ∨ a = d then none else (h.get? a).map fun o => (a, o)
end
end Att
namespace L2
open PySem PySem.Spec PyProof.Rows
theorem vals_ints : ∀ {vs : List Value} {ns : List Int}, IntsAre vs ns → Vals (ns.map V.int) vs
  | _, _, .nil => .nil
  | _, _, .cons n t h => .cons ⟨t, rfl⟩ (vals_ints h)
def Only (H : Hp) : Prop := ∀ b, H b = none ∨ ∃ o xs, H b = some (.frz o (.lst xs))
theorem law_call {P : Program} {w : World} {K : PySem.W.Frag} {mg mb : Str → Option Value} {CX : CXT} {k : Nat} {fa a : Addr} {fd : FuncData} {x : Str} {sp : Sp} {s₁ : Shared} {vs : List Value} {ns : List Int}
    (KX : K.In s₁.heap) (hns : s₁.heap.Ns mainGlobals mg) (hb : s₁.heap.Ns builtinsNs mb) (hbb : ∀ x : Str, x ≠ "__name__" → mb x = bootBuiltins x) (hlim : s₁.heap.NoLimit) (hg : s₁.gens = #[])
    (ha : s₁.heap.get? a = some { cls := .type "list", data := .seq vs.toArray }) (hi : IntsAre vs ns) (hl : ns.length ≤ sizeLine) (hr : Room k callerA)
    (F : ∀ base : Heap, K.In base → base.Ns mainGlobals mg → FnOk P w K mg base CX k fa fd [x] sp) (hbind : ∀ (s : Shared) (u : Value), BindsTo s fd ⟨[u], []⟩ [(x, u)])
    (hsp : ∀ H : Hp, Only H → SqL K H a (ns.map V.int) → sp [.ref a] H (fun v _ => v = .bl true) fun _ _ _ => False)
    (hCX : ∀ H e s', CX [] H s₁ (fun _ _ _ => False) e s' → False) :
    codeAny (model P w) callerA (.call (.ref fa) ⟨[.ref a], []⟩) (fun r s' => r = .ok (.ret (.bool true)) ∧ OldK s₁.heap s'.heap ∧ s'.os = s₁.os ∧ AllBare s'.gens) s₁ := by
  have rv := vals_ints hi
  have lenV := hi.length
  -- from an abstract heap in which nothing but the script may be tracked
  have core : ∀ H : Hp, Only H → SqL K H a (ns.map V.int) → HOk P w H s₁.heap → (∀ b, H b ≠ none → b = a) → (H a ≠ none → K.lookup a = none) →
      codeAny (model P w) callerA (.call (.ref fa) ⟨[.ref a], []⟩) (fun r s' => r = .ok (.ret (.bool true)) ∧ OldK s₁.heap s'.heap ∧ s'.os = s₁.os ∧ AllBare s'.gens) s₁ := by
    intro H hO hS hok hA hK
    have base_of : ∀ {b : Addr} {o : Obj}, s₁.heap.get? b = some o → H b = none → (hidT s₁.heap H).get? b = some o := fun e n => hidT_get e n
    have noA : ∀ {b : Addr} {o : Obj} {es : Array DictEntry} {ep : Nat}, s₁.heap.get? b = some o → o.data = .dict es ep → H b = none := fun {b o es ep} e d => by
      cases q : H b with
      | none => rfl
      | some u =>
        have e' : b = a := hA b (by rw [q]; simp)
        subst e'
        rw [ha] at e; cases e
        have d' : Data.seq vs.toArray _ = Data.dict es ep := d
        cases d'
    have nsK : ∀ {b : Addr} {m : Str → Option Value}, s₁.heap.Ns b m → (hidT s₁.heap H).Ns b m := fun {b m} ⟨o, es, ep, e, d, r⟩ => ⟨o, es, ep, base_of e (noA e d), d, r⟩
    have hKb : K.In (hidT s₁.heap H) := fun b o e => base_of (KX b o e) (by
      cases q : H b with
      | none => rfl
      | some u =>
        have e' : b = a := hA b (by rw [q]; simp)
        subst e'
        rw [hK (by rw [q]; simp)] at e; cases e)
    have hM : Mod K mg (hidT s₁.heap H) := ⟨hKb, nsK hns, ⟨mb, nsK hb, hbb⟩, let ⟨mc, h1, h2⟩ := hlim; ⟨mc, nsK h1, h2⟩⟩
    have e0 : Env0 P w K mg (hidT s₁.heap H) callerA [] s₁ H := ⟨rfl, hM, fun b o e => of_hidT e, Nat.le_of_eq (hidT_size _ _), trivial, fun b hb => absurd (show b ∈ ([] : List Addr) from hb) (by simp), hok, .of_eq hg⟩
    refine codeAny_mono ((F _ hKb (nsK hns)).run callerA [] s₁ H ⟨[.ref a], []⟩ [.ref a] [.ref a] _ _ hr e0 (hbind s₁ (.ref a)) (.cons rfl .nil) (hsp H hO hS)) fun r s' h => ?_
    cases r with
    | error e => exact (hCX H e s' h).elim
    | ok fl =>
      cases fl with
      | next => exact False.elim h
      | brk => exact False.elim h
      | cont => exact False.elim h
      | ret u =>
        obtain ⟨v, H', os, bare, un, hok', r', q⟩ := h
        have q' : v = .bl true := q
        subst q'
        obtain rfl : u = Value.bool true := r'
        refine ⟨rfl, OldK.of_keep fun b o e => ?_, os, bare⟩
        cases q : H b with
        | none => exact un.keep b o e q (by intro z; exact absurd (show b ∈ ([] : List Addr) from z) (by simp)) (by simp)
        | some u =>
          rcases hO b with z | ⟨ob, xs, z⟩
          · rw [q] at z; cases z
          · have z2 := un.frzs b ob _ z
            obtain ⟨e1, _⟩ := hok b _ z
            obtain ⟨e2, _⟩ := hok' b _ z2
            rw [e] at e1; cases e1
            exact e2
  cases hk : K.lookup a with
  | some o =>
    -- the script is one of the module's own objects
    have e := KX a o hk
    rw [ha] at e
    cases e
    refine core (fun _ => none) (fun _ => .inl rfl) (.inr ⟨_, vs.toArray, _, hk, rfl, rfl, rfl, by rw [List.size_toArray, lenV]; exact hl, by simpa using rv⟩) (fun b u z => by have z' : (none : Option HO) = some u := z; cases z') (fun b z => absurd rfl z) fun z => absurd rfl z
  | none =>
    refine core (fun b => if b = a then some (.frz { cls := .type "list", data := .seq vs.toArray } (.lst (ns.map V.int))) else none) (fun b => ?_) (.inl (.inr ⟨{ cls := .type "list", data := .seq vs.toArray }, if_pos rfl⟩)) (fun b u z => ?_) (fun b z => ?_) fun _ => hk
    · by_cases hb : b = a
      · exact .inr ⟨_, _, if_pos hb⟩
      · exact .inl (if_neg hb)
    · by_cases hb : b = a
      · have z' := (if_pos hb).symm.trans z
        cases z'
        subst hb
        exact ⟨ha, by rw [List.length_map]; exact hl, vs, _, rv, ha⟩
      · have z' := (if_neg hb).symm.trans z
        cases z'
    · by_cases hb : b = a
      · exact hb
      · exact absurd (if_neg hb) z
end L2
namespace L2
open PySem PySem.Spec PyProof.Rows
abbrev KOf {K : PySem.W.Frag} {h : Heap} (_ : K.In h) : PySem.W.Frag := K
theorem walk_of {l : PySem.W.OpenLaw} {n k : Nat} {q : Program} {loose : List Str} {XP : (Str → Option Value) → Heap → Prop} {YP : World → Heap → Prop} {d : DefRec} {K : Params → PySem.W.Frag} {CX : World → CXT} {sp : World → Sp} {x : Str}
    (hn : l.most = some n) (hn2 : n ≤ sizeLine) (hdf : d.params.defaults = []) (hr : Room k callerA)
    (hY : ∀ (w : World) (h : Heap), YP w h → (K w.params).In h)
    (F : ∀ (w : World) (mg : Str → Option Value) (fa : Addr) (h : Heap), (K w.params).In h → h.Ns mainGlobals mg → mg d.name = some (.ref fa) →
      ∃ fd : FuncData, (∀ (s : Shared) (u : Value), BindsTo s fd ⟨[u], []⟩ [(x, u)]) ∧
        ∀ base : Heap, (K w.params).In base → base.Ns mainGlobals mg → FnOk l.prog w (K w.params) mg base (CX w) k fa fd [x] (sp w))
    (hsp : ∀ (w : World) (H : Hp) (a : Addr) (ns : List Int), ns.length ≤ n → Only H → SqL (K w.params) H a (ns.map V.int) → sp w [.ref a] H (fun v _ => v = .bl true) fun _ _ _ => False)
    (hCX : ∀ (w : World) (H : Hp) (s : Shared) (e : Value) (s' : Shared), CX w [] H s (fun _ _ _ => False) e s' → False) :
    PySem.W.WalkO q loose XP YP l.row.toRowW d [] (fun f vs => PySem.call f vs) := by
  refine Att.attach_call hn hdf fun w s₀ s₁ mg mb fa o pm cd doc a vs ns G Y ho hd hcd hmg hobj hints hlen hg => ?_
  have KX := hY w _ Y
  obtain ⟨fd, hb, hF⟩ := F w mg fa _ KX G.T.g hmg
  exact law_call KX G.T.g G.T.b G.T.builtins G.T.nolimit hg hobj hints (Nat.le_trans hlen hn2) hr hF hb (fun H hO hS => hsp w H a ns hlen hO hS) fun H e s' => hCX w H s₁ e s'
end L2
/- THE LAST THEOREM (shape; LID, My.* are yours):
   My.Adr: a structure of the addresses that your layer names (classes, functions); My.Txt K t: a structure (Prop) of the equations over K;
   My.txt_mk : {K} {implicit addresses ..} (e1 : nsIn K mainGlobals "law" = some (some (.ref f))) (e2 : K.lookup f = some ⟨oc, od, .func (fnOf "law" "law" params body scope dV kV doc pm an cdv ct), sl⟩) (e3 : codeIn K cdv "law" = true) .. : ∃ t, My.Txt K t
set_option maxRecDepth 100000 in
set_option maxHeartbeats 0 in
theorem PySem.Challenge.cw_LID_holds : PySem.Challenge.rw_LID.Holds := by
  w_on; o_law; k_head; (case hw => w_witness2)
  k_fill
  refine L2.walk_of (l := PySem.Challenge.rw_LID) (n := 63) (k := 40) (x := "script") (CX := fun w => ..) (sp := fun _ => My.sp_law) rfl (by decide) rfl ⟨rfl, by decide, by decide⟩ (fun w h Y => PySem.W.kIn_of Y) ?F ?S ?C
  case F =>
    intro w mg fa h KX G hmg
    have T : ∃ t, My.Txt (L2.KOf KX) t := by
      dsimp only [L2.KOf]                          -- K must stand as «<heap const> w.params» for k_is
      refine' My.txt_mk ?e1 ?e2 ?e3 ..
      (case e1 => PySem.W.k_is)                    -- in the order: a name -> its address -> its object -> its parts
      (case e2 => PySem.W.k_is)
      ..
    obtain ⟨t, T⟩ := T
    have e0 := hmg.symm.trans (PySem.W.mg_of KX G T.law)
    cases e0                                       -- fa is the law's own address
    exact ⟨_, fun s u => .of_eq rfl, fun base kb nb => My.law_fn T kb nb⟩     -- if «.of_eq rfl» comes too early: refine' ⟨_, ?b, fun base kb nb => My.law_fn T kb nb⟩; exact fun s u => .of_eq rfl
  case S => exact fun w H a ns hl hO hS => ..
  case C => exact ..
(the tactic k_is has no namespace: write k_is) -/
namespace L2
open PySem PySem.Spec PyProof.Rows
def inClass (s : Stmt) (j : Nat) : Stmt := match s with
  | .ClassDef _ _ _ body _ _ _ _ _ _ _ => body.getD j (.Pass ⟨0, 0, 0, 0⟩)
  | _ => .Pass ⟨0, 0, 0, 0⟩
def defArgs (s : Stmt) : Arguments := match s with
  | .FunctionDef _ a _ _ _ _ _ _ _ _ => a
  | _ => { posonlyargs := [], args := [], vararg := none, kwonlyargs := [], kw_defaults := [], kwarg := none, defaults := [] }
def defBody (s : Stmt) : List Stmt := match s with
  | .FunctionDef _ _ b _ _ _ _ _ _ _ => b
  | _ => []
def defScope (s : Stmt) : Scope := match s with
  | .FunctionDef _ _ _ _ _ _ sc _ _ _ => sc
  | _ => { kind := .function, names := [], isGenerator := false, isCoroutine := false }
abbrev CX0 : CXT := fun _ _ _ _ _ _ => False
abbrev E0 : XK := fun _ _ _ => False
theorem pass0 {X : Cx} : Passes CX0 X E0 := fun _ _ _ _ _ _ _ h => h.elim
structure Fun (K : PySem.W.Frag) (x qual : Str) (st : Stmt) (f : Addr) (fd : FuncData) : Prop where
  ex : ∃ (oc : Value) (od : Option Addr) (kV doc pm : Value) (an : Option Addr) (cdv ct : Value) (osl : Array (Option Value)),
    fd = PySem.W.fnOf x qual (defArgs st) (defBody st) (defScope st) .none kV doc pm an cdv ct ∧ K.lookup f = some ⟨oc, od, .func fd, osl⟩ ∧ PySem.W.codeIn K cdv qual = true
  kp : PySem.W.keepIn K (.ref f) = true
section
variable {P : Program} {w : World} {K : PySem.W.Frag} {mg : Str → Option Value} {base : Heap}
theorem Fun.ok {x qual : Str} {st : Stmt} {f : Addr} {fd : FuncData} {N ps : List Str} {k : Nat} {sp : Sp} (F : Fun K x qual st f fd) (S : FnScope N ps (defScope st)) (len : ∀ vs H Q E, sp vs H Q E → vs.length = ps.length)
    (hbody : ∀ (cdv : Value) (A : Around) (outer : List Env) (s : Shared) (H : Hp) (vs : List V) (Q : VK) (E : XK), Room k (A.deeper (envOfC qual (defScope st) s.heap.objs.size f cdv)) → sp vs H Q E →
      ∃ t, PSs (cxOf CX0 P w K mg base N qual (defScope st) f cdv A outer s H E).nox (defBody st) t ∧ t { nx := fun _ H' => Q .non H', rt := Q } (start N vs) H) : FnOk P w K mg base CX0 (k + 1) f fd ps sp := by
  obtain ⟨oc, od, kV, doc, pm, an, cdv, ct, osl, rfl, lk, hcd⟩ := F.ex
  refine fn_of lk hcd S len fun A outer s H vs Q E hr hsp => ?_
  obtain ⟨t, h, q⟩ := hbody cdv A outer s H vs Q E hr hsp
  exact ⟨t, h.nox, q⟩
theorem Fun.binds {x qual : Str} {st : Stmt} {f : Addr} {fd : FuncData} {ps : List Str} (F : Fun K x qual st f fd)
    (h : ∀ (kV doc pm : Value) (an : Option Addr) (cdv ct : Value) (us : List Value), us.length = ps.length → bindArgs (PySem.W.fnOf x qual (defArgs st) (defBody st) (defScope st) .none kV doc pm an cdv ct) ⟨us, []⟩ = pure (ps.zip us)) : Binds K fd ps [] := by
  obtain ⟨oc, od, kV, doc, pm, an, cdv, ct, osl, rfl, lk, hcd⟩ := F.ex
  exact .all (h kV doc pm an cdv ct)
theorem fun_mk {x qual : Str} {st : Stmt} {f : Addr} {oc : Value} {od an : Option Addr} {osl : Array (Option Value)} {kV doc pm cdv ct : Value} (l : K.lookup f = some ⟨oc, od, .func (PySem.W.fnOf x qual (defArgs st) (defBody st) (defScope st) .none kV doc pm an cdv ct), osl⟩)
    (c : PySem.W.codeIn K cdv qual = true) (k : PySem.W.keepIn K (.ref f) = true) : Fun K x qual st f (PySem.W.fnOf x qual (defArgs st) (defBody st) (defScope st) .none kV doc pm an cdv ct) := ⟨⟨oc, od, kV, doc, pm, an, cdv, ct, osl, rfl, l, c⟩, k⟩
end
theorem small1000 {n : Nat} (h : n ≤ 1000) : n < sizeLine := Nat.lt_of_le_of_lt h (by decide)
section
variable {X : Cx}
theorem pv (i : Nat) {x : Str} {pos : Pos} (hN : X.N[i]? = some x := by rfl) (hv : Vis X.env.scope x := by first | exact Or.inl rfl | exact Or.inr (Or.inl rfl) | exact Or.inr (Or.inr rfl)) (hd : (x == ("__debug__" : Str)) = false := by decide)
    (hcd : (x == ("__classdict__" : Str)) = false := by decide) : PE X (.Name x pos) (tVar i) := pe_var hN hv hd hcd
end
theorem iteF {A B : Prop} (h : B) : if false = true then A else B := by
  rw [if_neg Bool.false_ne_true]
  exact h
theorem iteT {A B : Prop} (h : A) : if true = true then A else B := by
  rw [if_pos rfl]
  exact h
theorem ite2 {c A B : Prop} [Decidable c] (h1 : c → A) (h2 : ¬ c → B) : if c then A else B := by
  by_cases h : c
  · rw [if_pos h]
    exact h1 h
  · rw [if_neg h]
    exact h2 h
def Same (H H' : Hp) : Prop := ∀ b o, H b = some o → H' b = some o
theorem Same.refl (H : Hp) : Same H H := fun _ _ h => h
theorem Same.trans {H H1 H2 : Hp} (a : Same H H1) (b : Same H1 H2) : Same H H2 := fun c o h => b c o (a c o h)
theorem Same.free {H H' : Hp} (e : Same H H') {l : Addr} (h : H' l = Option.none) : H l = Option.none := by
  cases q : H l with
  | none => rfl
  | some o =>
    rw [e l o q] at h
    cases h
theorem Same.seq {K : PySem.W.Frag} {H H' : Hp} {a : Addr} {xs : List V} (e : Same H H') (h : SqL K H a xs) : SqL K H' a xs := by
  rcases h with (h | ⟨o, h⟩) | h
  · exact .inl (.inl (e _ _ h))
  · exact .inl (.inr ⟨o, e _ _ h⟩)
  · exact .inr h
end L2
namespace L2
open PySem PySem.Spec PyProof.Rows
section
variable {X : Cx}
end
section
variable {κ : Type} [DecidableEq κ]
end
end L2
set_option maxHeartbeats 4000000
namespace Tn
def upto (n : Nat) : List Int := (List.range n).map fun (i : Nat) => (i : Int)
structure IsOrd (ns : List Int) : Prop where
  perm : ns.Perm (upto ns.length)
def backF (ns : List Int) : List Int := (List.range ns.length).map fun (w : Nat) => (ns.idxOf (w : Int) : Int)
def filled (ns : List Int) (i : Nat) : List Int := (List.range ns.length).map fun (w : Nat) => if ns.idxOf (w : Int) < i then (ns.idxOf (w : Int) : Int) else 0
end Tn
namespace Tn
open PySem
def rvO (tp : Addr) (i : Int) : Obj := { cls := .type "reversed", data := .fields #[.ref tp, rawInt i] }
def IsRv (h : Heap) (a tp : Addr) (i : Int) : Prop := ∃ o, h.get? a = some o ∧ o.cls = .type "reversed" ∧ o.data = .fields #[.ref tp, rawInt i]
section
variable {prog : Program} {w : World} {A : Around} {E : Value → Shared → Prop} {s : Shared}
end
end Tn
namespace Tn
open PySem
end Tn
namespace L2
open PySem PySem.Spec PyProof.Rows
section
variable {X : Cx}
theorem kit_same (K : PySem.W.Frag) (n : String) : PySem.W.kitOne K (.type n) (.type n) = some true := by
  unfold PySem.W.kitOne
  rw [if_pos (by simp)]
theorem call_isi : CallR X (.builtin "isinstance") (fun xs H Q => ∃ x t n b, xs = [x, .ty n] ∧ TyOf X.K H x t ∧ PySem.W.kitOne X.K t (.type n) = some b ∧ Q (.bl b) H) := by
  intro pins s σ H xs us Q I r h
  obtain ⟨x, t, n, b, rfl, ty, e, q⟩ := h
  obtain ⟨u, w', rfl, rx, ry⟩ := vals2 r
  obtain rfl : w' = Value.type n := ry
  exact isinst_ok I rx ty e fun tk => ⟨.bl b, H, I.tok _, rfl, q⟩
def eqVs : List V → List V → Bool
  | [], [] => true
  | x :: xs, y :: ys => eqV x y && eqVs xs ys
  | _, _ => false
def rEqT (K : PySem.W.Frag) : R2 := fun x y H Q => ∃ a b xs ys, x = .ref a ∧ y = .ref b ∧ SqT K H a xs ∧ SqT K H b ys ∧ xs.all flatV = true ∧ ys.all flatV = true ∧ Q (.bl (eqVs xs ys)) H
end
end L2
namespace Tn
open PySem PySem.Spec PyProof.Rows
section
variable {prog : Program} {w : World} {A : Around} {E : Value → Shared → Prop} {s : Shared}
end
end Tn
namespace L2
open PySem PySem.Spec PyProof.Rows
def Ite (K : PySem.W.Frag) (a : Addr) : It :=
  ⟨fun i H => ∃ xs x, SqT K H a xs ∧ xs[i]? = some x, fun i H x H' => ∃ p y, H p = none ∧ x = .ref p ∧ (∀ xs, SqT K H a xs → xs[i]? = some y) ∧ H' = upd H p (.tup [.int i, y]), fun i H => ∃ xs, SqT K H a xs ∧ xs.length = i⟩
section
variable {X : Cx}
def iEnum (K : PySem.W.Frag) (ta : TA) : TI := fun σ H R => ta σ H fun vs H1 => ∃ a, vs = [.ref a] ∧ (∃ xs, SqT K H1 a xs) ∧ R (Ite K a) H1
end
end L2
namespace L2
open PySem PySem.Spec PyProof.Rows
def cSt (σ : St) (js : List Nat) : St := none :: js.map fun j => (σ[j]?).getD none
def cxC (X : Cx) (scope : Scope) (cl : List (Str × Addr)) (C : Addr) (N : List Str) (fp : List Addr) (s : Shared) (H : Hp) : Cx where
  prog := X.prog
  w := X.w
  K := X.K
  mg := X.mg
  base := X.base
  A := X.A
  N := N
  s₀ := s
  H₀ := H
  env := compEnvC scope cl C X.env
  outer := X.stack
  stack := X.stack
  ex := fp
  fn := fun _ => false
  calm := X.calm
  pn := []
  xe := fun _ _ => False
theorem closure_go {env : Env} : ∀ (l : List (Str × NameKind)) (cs : List (Str × Addr)), (∀ y ∈ l, y.2 = .free → ∃ c, env.cells.lookup y.1 = some c) → (∀ y c, cs.lookup y = some c → env.cells.lookup y = some c) →
    ∃ cl, (forIn l cs fun x r => do
        let (name, kind) := x
        let mut cs := r
        if kind == .free then cs := (name, ← cellOf env name) :: cs
        pure (ForInStep.yield cs) : Sem (List (Str × Addr))) = pure cl ∧ (∀ y c, cl.lookup y = some c → env.cells.lookup y = some c) ∧ (∀ y ∈ l, y.2 = .free → ∃ c, cl.lookup y.1 = some c) ∧ (∀ y c, cs.lookup y = some c → ∃ d, cl.lookup y = some d)
  | [], cs, _, h2 => ⟨cs, rfl, h2, (fun _ h => nomatch h), fun y c e => ⟨c, e⟩⟩
  | (n, k) :: r, cs, h1, h2 => by
    rw [List.forIn_cons]
    by_cases hk : k = .free
    · subst hk
      obtain ⟨c, hc⟩ := h1 (n, .free) List.mem_cons_self rfl
      have hc' : cellOf env n = pure c := by unfold cellOf; rw [show env.cells.lookup n = some c from hc]
      obtain ⟨cl, e, p1, p2, p3⟩ := closure_go r ((n, c) :: cs) (fun y hy => h1 y (List.mem_cons_of_mem _ hy)) (fun y d hd => by
        rw [List.lookup_cons] at hd
        split at hd
        · rename_i hb
          have : y = n := by simpa using hb
          cases hd
          rw [this]; exact hc
        · exact h2 y d hd)
      refine ⟨cl, ?_, p1, fun y hy hf => ?_, fun y d hd => ?_⟩
      · simp only [beq_self_eq_true, if_true, hc', pure_bind]
        exact e
      · rcases List.mem_cons.mp hy with rfl | hy
        · exact p3 n c (by simp)
        · exact p2 y hy hf
      · by_cases hyn : y = n
        · subst hyn; exact p3 y c (by simp)
        · exact p3 y d (by rw [List.lookup_cons, show (y == n) = false by simpa using hyn]; exact hd)
    · have hb : (k == NameKind.free) = false := by simpa using hk
      obtain ⟨cl, e, p1, p2, p3⟩ := closure_go r cs (fun y hy => h1 y (List.mem_cons_of_mem _ hy)) h2
      refine ⟨cl, ?_, p1, fun y hy hf => ?_, p3⟩
      · simp only [hb, Bool.false_eq_true, if_false, pure_bind]
        exact e
      · rcases List.mem_cons.mp hy with rfl | hy
        · exact absurd hf hk
        · exact p2 y hy hf
theorem closure_of {env : Env} {scope : Scope} (h : ∀ y ∈ scope.names, y.2 = .free → ∃ c, env.cells.lookup y.1 = some c) :
    ∃ cl, closureFor scope env = pure cl ∧ (∀ y c, cl.lookup y = some c → env.cells.lookup y = some c) ∧ ∀ y ∈ scope.names, y.2 = .free → ∃ c, cl.lookup y.1 = some c := by
  obtain ⟨cl, e, p1, p2, _⟩ := closure_go scope.names [] h (fun _ _ q => by simp at q)
  refine ⟨cl, ?_, p1, p2⟩
  unfold closureFor
  have e' := congrArg (fun (t : Sem (List (Str × Addr))) => t >>= fun cs => pure cs) e
  simp only [pure_bind, bind_pure] at e' ⊢
  first | exact e' | simpa using e'
structure CScope (S scope : Scope) (x : Str) (N : List Str) (P : List Str) (js : List Nat) : Prop where
  kind : scope.kind = .function
  nocell : ∀ y ∈ scope.names, y.2 ≠ .cell
  loc : ∀ y ∈ scope.names, y.2 = .local → scope.names.lookup y.1 = some .local
  free : ∀ y ∈ scope.names, y.2 = .free → S.names.lookup y.1 = some .cell ∨ S.names.lookup y.1 = some .free
  own : scope.names.lookup x = some .local
  nd : N.Nodup
  hd : N = x :: (js.map fun j => (P[j]?).getD x)
  fr : ∀ j ∈ js, ∃ y, P[j]? = some y ∧ scope.names.lookup y = some .free
end L2
namespace L2
open PySem PySem.Spec PyProof.Rows
def relF (env : Env) (p : Str × NameKind) : Str × NameKind := if (p.2 == .free && env.scope.kind == .function && env.kindOf p.1 == some .cell) then (p.1, .cell) else (p.1, p.2)
theorem relF_fst (env : Env) (p : Str × NameKind) : (relF env p).1 = p.1 := by
  unfold relF; split <;> rfl
theorem relF_snd (env : Env) (p : Str × NameKind) : (relF env p).2 = p.2 ∨ (p.2 = .free ∧ (relF env p).2 = .cell) := by
  unfold relF
  split
  · rename_i h
    refine .inr ⟨?_, rfl⟩
    have h' : (p.2 == NameKind.free) = true := by
      cases e : (p.2 == NameKind.free) with
      | true => rfl
      | false => rw [e] at h; simp at h
    simpa using h'
  · exact .inl rfl
theorem look_rel {env : Env} : ∀ {names : List (Str × NameKind)} {x : Str} {k : NameKind}, (names.map (relF env)).lookup x = some k → ∃ k0, names.lookup x = some k0 ∧ (k = k0 ∨ (k0 = .free ∧ k = .cell))
  | [], _, _, h => by simp at h
  | p :: r, x, k, h => by
    rw [List.map_cons, show relF env p = ((relF env p).1, (relF env p).2) from rfl, List.lookup_cons, relF_fst] at h
    rw [show p = (p.1, p.2) from rfl, List.lookup_cons]
    split at h
    · refine ⟨p.2, rfl, ?_⟩
      have e : (relF env p).2 = k := Option.some.inj h
      rcases relF_snd env p with z | z
      · exact .inl (e.symm.trans z)
      · exact .inr ⟨z.1, e.symm.trans z.2⟩
    · exact look_rel h
theorem look_unrel {env : Env} : ∀ {names : List (Str × NameKind)} {x : Str} {k0 : NameKind}, names.lookup x = some k0 → ∃ k, (names.map (relF env)).lookup x = some k ∧ (k = k0 ∨ (k0 = .free ∧ k = .cell))
  | [], _, _, h => by simp at h
  | p :: r, x, k0, h => by
    rw [show p = (p.1, p.2) from rfl, List.lookup_cons] at h
    rw [List.map_cons, show relF env p = ((relF env p).1, (relF env p).2) from rfl, List.lookup_cons, relF_fst]
    split at h
    · have e : p.2 = k0 := Option.some.inj h
      refine ⟨_, rfl, ?_⟩
      rcases relF_snd env p with z | z
      · exact .inl (z.trans e)
      · exact .inr ⟨e.symm.trans z.1, z.2⟩
    · exact look_unrel h
section
variable {X : Cx} {pins : List (Addr × Obj)} {σ : St} {H : Hp} {s : Shared} {scope S : Scope} {cl : List (Str × Addr)} {C : Addr} {N : List Str} {fp : List Addr} {x : Str} {js : List Nat}
theorem cxC_ok (I : Inv X pins σ H s) (Sc : CScope S scope x N X.N js) (hC : s.heap.objs.size ≤ C) (h1 : ∀ y c, cl.lookup y = some c → X.env.cells.lookup y = some c)
    (h2 : ∀ y ∈ scope.names, y.2 = .free → ∃ c, cl.lookup y.1 = some c) (hfp : ∀ b ∈ fp, FpOk X pins H b) (hlt : ∀ b ∈ fp, b < s.heap.objs.size) : (cxC X scope cl C N fp s H).Ok where
  mod := I.ok.mod
  kind := Sc.kind
  glob := I.ok.glob
  blt := I.ok.blt
  above := hC
  inj := fun y z c e1 e2 => I.ok.inj y z c (h1 _ _ e1) (h1 _ _ e2)
  has := fun y hy => by
    have go : ∀ k, (scope.names.map (relF X.env)).lookup y = some k → (k = .cell ∨ k = .free) → ∃ c, cl.lookup y = some c := fun k e hk => by
      obtain ⟨k0, e0, hh⟩ := look_rel e
      have m := PySem.mem_of_lookup e0
      have hf : k0 = .free := by
        rcases hh with z | z
        · rcases hk with q | q
          · exact absurd (z.symm.trans q) (Sc.nocell _ m)
          · exact z.symm.trans q
        · exact z.1
      exact h2 (y, k0) m hf
    rcases hy with e | e
    · exact go _ e (.inl rfl)
    · exact go _ e (.inr rfl)
  cab := fun _ _ h => nomatch h
  hd := I.ok.hd
  frames := I.ok.frames
  stk := .inl rfl
  exf := fun b hb => ⟨Nat.ne_of_lt (Nat.lt_of_lt_of_le (hlt b hb) hC), fun y c e => (hfp b hb).2.2.2.2.1 y c (h1 _ _ e)⟩
  bs := fun b o e => I.bs b o e
  bsz := Nat.le_trans I.ok.bsz I.sz
  noex := fun b o e hb => by
    rcases (hfp b hb).2.2.2.1 with z | z
    · exact I.ok.noex b o e z
    · exact absurd (Nat.lt_of_lt_of_le (Heap.lt_size e) (Nat.le_trans I.ok.bsz z)) (Nat.lt_irrefl _)
  exfs := fun b hb hs => by
    rcases List.mem_cons.mp (I.stkSub b hs) with z | z
    · exact (hfp b hb).2.1 z
    · exact (hfp b hb).2.2.1 z
  funs := I.stack
  frf := I.stkFree
theorem cxC_inv (I : Inv X pins σ H s) (hS : X.env.scope = S) (Sc : CScope S scope x N X.N js) (hC : s.heap.objs.size ≤ C) (h1 : ∀ y c, cl.lookup y = some c → X.env.cells.lookup y = some c)
    (h2 : ∀ y ∈ scope.names, y.2 = .free → ∃ c, cl.lookup y.1 = some c) (hfp : ∀ b ∈ fp, FpOk X pins H b) (hlt : ∀ b ∈ fp, b < s.heap.objs.size)
    {h4 : Heap} {tk : Nat} {m : Str → Option Value} (hns : h4.Ns C m) (hk : ∀ b o, s.heap.get? b = some o → h4.get? b = some o) :
    Inv (cxC X scope cl C N fp s H) [] (cSt σ js) H { s with heap := h4, toks := tk } := by
  refine ⟨cxC_ok I Sc hC h1 h2 hfp hlt, rfl, I.bare, Un.kept hk, ⟨m, hns, fun i y v hi hv hvis => ?_⟩, fun y c e => ?_, I.hok.fresh hC, fun y c e => I.freeC y c (h1 _ _ e), fun p hp => absurd (show p ∈ ([] : List (Addr × Obj)) from hp) (by simp), I.hok.kept hk, ?_⟩
  · cases i with
    | zero => exact absurd (show some (none : Option V) = some (some v) from hv) (by simp)
    | succ i =>
      have hi : N[i + 1]? = some y := hi
      rw [Sc.hd, List.getElem?_cons_succ, List.getElem?_map] at hi
      have hv : (js.map fun j => (σ[j]?).getD none)[i]? = some (some v) := hv
      rw [List.getElem?_map] at hv
      cases ej : js[i]? with
      | none => rw [ej] at hv; cases hv
      | some j =>
        rw [ej] at hi hv
        have hv : (σ[j]?).getD none = some v := Option.some.inj hv
        have hi : (X.N[j]?).getD x = y := Option.some.inj hi
        obtain ⟨y', ey, hfr⟩ := Sc.fr j (List.mem_of_getElem? ej)
        rw [ey] at hi
        have hi : y' = y := hi
        subst hi
        have hσ : σ[j]? = some (some v) := by
          cases e : σ[j]? with
          | none => rw [e] at hv; cases hv
          | some o => rw [e] at hv; exact congrArg some hv
        have kX := Sc.free _ (PySem.mem_of_lookup hfr) rfl
        rw [← hS] at kX
        obtain ⟨mX, hnX, hl⟩ := I.loc
        obtain ⟨u, r, L⟩ := hl j y' v ey hσ (.inr kX)
        refine ⟨u, r, ?_⟩
        rcases L with ⟨kl, _⟩ | ⟨_, c, ec, z⟩
        · have kl : X.env.scope.names.lookup y' = some .local := kl
          rcases kX with q | q
          · rw [q] at kl; cases kl
          · rw [q] at kl; cases kl
        · obtain ⟨c', ec'⟩ := h2 _ (PySem.mem_of_lookup hfr) rfl
          have ecc : c' = c := Option.some.inj ((h1 _ _ ec').symm.trans ec)
          subst ecc
          obtain ⟨o, ho, hd⟩ := z
          refine .inr ⟨?_, c', ec', o, hk _ _ ho, hd⟩
          obtain ⟨k, e, hh⟩ := look_unrel (env := X.env) hfr
          rcases hh with q | q
          · exact .inr (show (scope.names.map (relF X.env)).lookup y' = some .free from q ▸ e)
          · exact .inl (show (scope.names.map (relF X.env)).lookup y' = some .cell from q.2 ▸ e)
  · obtain ⟨v, o, ho, hd⟩ := I.cell y c (h1 _ _ e)
    exact ⟨v, o, hk _ _ ho, hd⟩
  · show (cSt σ js).length = N.length
    rw [Sc.hd]
    simp [cSt]
def PTs (X : Cx) (ifs : List Expr) (t : TT) : Prop :=
  ∀ (pins : List (Addr × Obj)) (s : Shared) (σ : St) (H : Hp) (Q : Bool → Hp → Prop), Inv X pins σ H s → t σ H Q →
    wpAny (model X.prog X.w) X.A (forIn ifs true fun c r => if r = true then do let ok ← isTrue c X.env (eval c X.env); pure (ForInStep.yield ok) else pure (ForInStep.yield r)) (TP X pins σ Q) X.xe s
def tYes : TT := fun _ H Q => Q true H
theorem pts_nil : PTs X [] tYes := fun _ _ _ H _ I h => wpAny_tests_nil ⟨H, I, h⟩
def CompW (J : It) (g : TG) (tc : TT) (te : TE) (js : List Nat) (σ : St) (H1 : Hp) (Q : VK) (D : Addr) : Prop :=
  ∃ W : Nat → Nat → List V → St → Hp → Prop, (∃ m, W 0 m [] (cSt σ js) (upd H1 D (.lst []))) ∧ ∀ i m acc σ' H', W i m acc σ' H' → H' D = some (.lst acc) ∧
    ((J.stop i H' ∧ Q (.ref D) H') ∨ (J.go i H' ∧ acc.length < sizeLine ∧ ∀ y H2, J.yld i H' y H2 → g y σ' H2 fun σ3 H3 => tc σ3 H3 fun b H4 =>
      if b = true then te σ3 H4 fun z H5 => H5 D = some (.lst acc) ∧ ∃ m', m' < m ∧ W (i + 1) m' (acc ++ [z]) σ3 (upd H5 D (.lst (acc ++ [z])))
      else ∃ m', m' < m ∧ W (i + 1) m' acc σ3 H4))
def tComp (wi : TI) (g : TG) (tc : TT) (te : TE) (js : List Nat) : TE := fun σ H Q => wi σ H fun J H1 => ∀ D, H1 D = none → CompW J g tc te js σ H1 Q D
theorem compLoop_go {prog : Program} {w : World} {A : Around} {R : Result → Shared → Prop} {s : Shared} {elt target iter : Expr} {ifs : List Expr} {pos : Pos} {it acc : Value} {env : Env} (I : Nat → Shared → Prop)
    (turn : ∀ n s, I n s → wpAny (model prog w) A (pyNext it) (fun r s₁ => match r with
      | none => R (.ok .next) s₁
      | some v => wpAny (model prog w) A (letOwnedTupleGo target it v) (fun _ s₂ => wpAny (model prog w) A (assign target env v) (fun _ s₂ =>
          wpAny (model prog w) A (forIn ifs true fun c r => if r = true then do let ok ← isTrue c env (eval c env); pure (ForInStep.yield ok) else pure (ForInStep.yield r)) (fun ok s₃ =>
            if ok = true then wpAny (model prog w) A (eval elt env) (fun x s₄ =>
              wpAny (model prog w) A (call (.builtin "list.append") [acc, x]) (fun _ s₅ => ∃ m, m < n ∧ I m s₅) (fun _ _ => False) s₄) (fun _ _ => False) s₃
            else ∃ m, m < n ∧ I m s₃) (fun _ _ => False) s₂) (fun _ _ => False) s₂) (fun _ _ => False) s₁) (fun _ _ => False) s)
    (n : Nat) (h : I n s) :
    codeAny (model prog w) A (.compLoop (.ListComp elt [⟨target, iter, ifs, 0⟩] scope pos) 0 it acc env) R s := by
  refine codeAny_loop rfl I (fun n s hI => ?_) n h
  show wpAny _ A ((compTurn (.ListComp elt [⟨target, iter, ifs, 0⟩] scope pos) 0 it acc env).onRaise (fun x => do noteFrame x env; theTreesLotGoes x)) _ _ s
  refine wpAny_noted ?_
  rw [compTurn_list]
  refine wpAny_bind (wpAny_standAt (wpAny_bind (wpAny_mono (turn n s hI) (fun r s₁ h₁ => ?_) fun _ _ h' => h'.elim)))
  cases r with
  | none => exact wpAny_pure h₁
  | some v =>
    refine wpAny_bind (wpAny_mono h₁ (fun _ s₁' h₁' => ?_) fun _ _ h' => h'.elim)
    refine wpAny_bind (wpAny_mono h₁' (fun _ s₂ h₂ => wpAny_bind (wpAny_mono h₂ (fun ok s₃ h₃ => ?_) fun _ _ h' => h'.elim)) fun _ _ h' => h'.elim)
    cases ok with
    | false => exact wpAny_pure ⟨rfl, h₃⟩
    | true =>
      exact wpAny_bind (wpAny_bind (wpAny_mono h₃ (fun x s₄ h₄ => wpAny_bind (wpAny_mono h₄ (fun _ s₅ h₅ => wpAny_pure (wpAny_pure ⟨rfl, h₅⟩)) fun _ _ h' => h'.elim)) fun _ _ h' => h'.elim))
theorem comp_block {E : Value → Shared → Prop} {elt iter tg : Expr} {ifs : List Expr} {pos : Pos} {J : It} {tn : Nat → Heap → Prop} {it : Addr} {g : TG} {tc : TT} {te : TE} {Q : VK} {RR : Value → Addr → Result → Shared → Prop}
    (hc : X.calm = true) (I2 : Inv X pins σ H s) (hS : X.env.scope = S) (Sc : CScope S scope x N X.N js) (h1 : ∀ y c, cl.lookup y = some c → X.env.cells.lookup y = some c)
    (h2 : ∀ y ∈ scope.names, y.2 = .free → ∃ c, cl.lookup y.1 = some c) (T : Turn X.prog X.w X.K tg J fp it tn) (st2 : tn 0 s.heap) (f2 : ∀ b ∈ fp, FpOk X pins H b)
    (hg : ∀ cl C fp s H, PG (cxC X scope cl C N fp s H) tg g) (ht : ∀ cl C fp s H, PTs (cxC X scope cl C N fp s H) ifs tc) (he : ∀ cl C fp s H, PE (cxC X scope cl C N fp s H) elt te)
    (q : ∀ D, H D = none → CompW J g tc te js σ H Q D)
    (hRR : ∀ D C H' s', Inv X pins σ H' s' → FpOk X pins H' C → (∃ m, s'.heap.Ns C m) → Q (.ref D) H' → RR (.ref D) C (.ok .next) s') :
    wpAny (model X.prog X.w) X.A (newList []) (fun acc s₃ => wpAny (model X.prog X.w) X.A (newFunctionEnv scope X.env.globals cl [] X.env.qual none .none (some X.env)) (fun cenv s₄ =>
      codeAny (model X.prog X.w) X.A (.compStart (.ListComp elt [⟨tg, iter, ifs, 0⟩] scope pos) 0 (.ref it) acc { cenv with scope := relabel scope X.env }) (RR acc cenv.locals) s₄) E s₃) E s := by
  refine wpAny_newObj_type (wpAny_newFunctionEnv Sc.nocell (by intro y hy; simp at hy) (fun h₁ hns₁ hsb₁ => ?_) Sc.kind)
  dsimp only at hns₁ hsb₁ ⊢
  have I3 : Inv X pins σ (upd H s.heap.objs.size (.lst [])) { s with heap := s.heap.push { cls := .type "list", dict := none, data := .seq ([] : List Value).toArray } } := I2.lnew (its := []) (t' := s.toks) .nil (Nat.zero_le _)
  have hD0 : H s.heap.objs.size = none := I2.hok.fresh (Nat.le_refl _)
  obtain ⟨W, ⟨m0, w0⟩, turn⟩ := q s.heap.objs.size hD0
  generalize hHP : s.heap.push { cls := .type "list", dict := none, data := .seq ([] : List Value).toArray } = HP at hns₁ hsb₁ I3 ⊢
  have hsz : HP.objs.size = s.heap.objs.size + 1 := by rw [← hHP, Heap.size_push]
  have kp : ∀ b o, HP.get? b = some o → h₁.get? b = some o := fun b o e => hsb₁.extBut b o (Nat.ne_of_lt (Heap.lt_size e)) (Heap.get?_push_of_some _ e)
  have lt2 : ∀ b ∈ fp, b < s.heap.objs.size := fun b hb => by
    obtain ⟨o, e, _⟩ := T.obj 0 _ st2 b hb
    exact Heap.lt_size e
  have f3 : ∀ b ∈ fp, FpOk X pins (upd H s.heap.objs.size (.lst [])) b := fun b hb => ⟨by rw [upd_ne (Nat.ne_of_lt (lt2 b hb))]; exact (f2 b hb).1, (f2 b hb).2⟩
  have lt3 : ∀ b ∈ fp, b < HP.objs.size := fun b hb => by rw [hsz]; exact Nat.lt_succ_of_lt (lt2 b hb)
  have IB : Inv (cxC X scope cl HP.objs.size N fp { s with heap := HP } (upd H s.heap.objs.size (.lst []))) [] (cSt σ js) (upd H s.heap.objs.size (.lst [])) { s with heap := h₁, toks := s.toks + ([] : List (Str × Value)).length } :=
    cxC_inv (s := { s with heap := HP }) I3 hS Sc (Nat.le_refl _) h1 h2 f3 lt3 hns₁ kp
  have st1 : tn 0 h₁ := T.keep 0 _ _ st2 fun b _ o e => kp b o (by rw [← hHP]; exact Heap.get?_push_of_some _ e)
  have loop : codeAny (model X.prog X.w) X.A (.compLoop (.ListComp elt [⟨tg, iter, ifs, 0⟩] scope pos) 0 (.ref it) (.ref s.heap.objs.size) (compEnvC scope cl HP.objs.size X.env))
      (RR (.ref s.heap.objs.size) HP.objs.size) { s with heap := h₁, toks := s.toks + ([] : List (Str × Value)).length } := by
    have stat : ∀ {H' : Hp}, (∀ b ∈ fp, H' b = none) → ∀ b ∈ fp, FpOk (cxC X scope cl HP.objs.size N fp { s with heap := HP } (upd H s.heap.objs.size (.lst []))) [] H' b := fun {H'} hn b hb =>
      ⟨hn b hb, Nat.ne_of_lt (lt3 b hb), fun hs => by
        rcases List.mem_cons.mp (I3.stkSub b hs) with z | z
        · exact (f3 b hb).2.1 z
        · exact (f3 b hb).2.2.1 z, .inl hb, fun y c e => (f3 b hb).2.2.2.2.1 y c (h1 _ _ e), fun p hp => absurd (show p ∈ ([] : List (Addr × Obj)) from hp) (by simp)⟩
    refine compLoop_go (fun n s' => ∃ i acc σ' H', Inv (cxC X scope cl HP.objs.size N fp { s with heap := HP } (upd H s.heap.objs.size (.lst []))) [] σ' H' s' ∧ tn i s'.heap ∧ (∀ b ∈ fp, H' b = none) ∧ W i n acc σ' H') ?_ m0
      ⟨0, [], _, _, IB, st1, fun b hb => (f3 b hb).1, w0⟩
    rintro n s5 ⟨i, acc, σ5, H5, I5, st5, fr5, w5⟩
    obtain ⟨hD, alt⟩ := turn i n acc σ5 H5 w5
    rcases alt with ⟨stop, qn⟩ | ⟨go, hz, step⟩
    · refine thn (T.done (cxC X scope cl HP.objs.size N fp { s with heap := HP } (upd H s.heap.objs.size (.lst []))) rfl rfl rfl hc i [] s5 σ5 H5 _ I5 (stat fr5) st5 stop) fun r s6 ⟨hr, I6⟩ => ?_
      subst hr
      have hfin : Inv X pins σ H5 s6 := I3.call' (ch := fp) I6.os I6.base I6.hok I6.bare fun b hb => ⟨(f3 b hb).2.2.2.1, (f3 b hb).2.1, (f3 b hb).2.2.2.2.1, (f3 b hb).2.2.2.2.2⟩
      obtain ⟨m, hm, _⟩ := I6.loc
      exact hRR _ _ H5 s6 hfin (I3.fpOk (Nat.le_refl _) I6.free) ⟨m, hm⟩ qn
    · refine thn (T.item (cxC X scope cl HP.objs.size N fp { s with heap := HP } (upd H s.heap.objs.size (.lst []))) rfl rfl rfl hc i [] s5 σ5 H5 _ I5 (stat fr5) st5 go) fun r s6 ⟨u, hr, h6⟩ => ?_
      subst hr
      refine thn h6 fun _ s7 ⟨y, H7, I7, r7, y7, st7, fr7⟩ => ?_
      have I7' := I7.pinned (stat fr7) (T.obj _ _ st7)
      refine thn (hg _ _ _ _ _ _ s7 σ5 H7 y u _ I7' r7 (step y H7 y7)) fun _ s8 ⟨σ8, H8, I8, q8⟩ => ?_
      have keepIt : ∀ {σ' : St} {H' : Hp} {s' : Shared}, Inv (cxC X scope cl HP.objs.size N fp { s with heap := HP } (upd H s.heap.objs.size (.lst []))) ([] ++ pinsAt fp s7.heap) σ' H' s' → tn (i + 1) s'.heap ∧ ∀ b ∈ fp, H' b = none := fun {σ' H' s'} J' =>
        ⟨T.keep _ _ _ st7 fun b hb o e => (J'.pin (b, o) (List.mem_append_right _ (List.mem_append_right _ (mem_pinsAt hb e)))).1, fun b hb => by
          obtain ⟨o, e, _⟩ := T.obj _ _ st7 b hb
          exact (J'.pin (b, o) (List.mem_append_right _ (List.mem_append_right _ (mem_pinsAt hb e)))).2.1⟩
      refine thn (ht _ _ _ _ _ _ s8 σ8 H8 _ I8 q8) fun ok s9 ⟨H9, I9, q9⟩ => ?_
      cases ok with
      | false =>
        obtain ⟨m', hm, w9⟩ := q9
        obtain ⟨t9, n9⟩ := keepIt I9
        exact ⟨m', hm, i + 1, acc, σ8, H9, I9.unpinned, t9, n9, w9⟩
      | true =>
        refine thn (he _ _ _ _ _ _ s9 σ8 H9 _ I9 q9) fun v s10 ⟨z, H10, I10, r10, hD10, m', hm, w10⟩ => ?_
        refine thn (mt_append _ s10 σ8 H10 (.ref s.heap.objs.size) [z] (.ref s.heap.objs.size) [v] (fun _ H11 => ∃ m', m' < n ∧ W (i + 1) m' (acc ++ [z]) σ8 H11) I10 rfl (.cons r10 .nil) ⟨_, acc, z, rfl, rfl, hD10, hz, m', hm, w10⟩) fun _ s11 ⟨_, H11, I11, _, m2, hm2, w11⟩ => ?_
        obtain ⟨t11, n11⟩ := keepIt I11
        exact ⟨m2, hm2, i + 1, acc ++ [z], σ8, H11, I11.unpinned, t11, n11, w11⟩
  exact codeAny_compStart_list loop (T.self _ 0 _ _ _ st1 loop)
variable {elt iter tg : Expr} {ifs : List Expr} {pos : Pos} {wi : TI} {g : TG} {tc : TT} {te : TE}
theorem pe_comp (hS : X.env.scope = S) (Sc : CScope S scope x N X.N js) (hc : X.calm = true) (hi : PI X tg iter wi)
    (hg : ∀ cl C fp s H, PG (cxC X scope cl C N fp s H) tg g) (ht : ∀ cl C fp s H, PTs (cxC X scope cl C N fp s H) ifs tc) (he : ∀ cl C fp s H, PE (cxC X scope cl C N fp s H) elt te)
    (hs : ∀ x, foldedSetIterable iter X.env x = pure x := by intro _; rfl) : PE X (.ListComp elt [⟨tg, iter, ifs, 0⟩] scope pos) (tComp wi g tc te js) := by
  intro pins s σ H Q I h
  obtain ⟨cl, hcl, h1, h2⟩ := closure_of (scope := scope) (env := X.env) fun y hy hf => I.ok.has y.1 (by have := Sc.free y hy hf; rw [← hS] at this; exact this)
  rw [eval_ListComp]
  refine wpAny_comprehension_free (use := none) rfl hs hcl Sc.kind Sc.loc (thn (hi pins s σ H _ I h) fun xv s1 h1' => thn h1' fun itv s2 h2' => ?_)
  obtain ⟨it, fp, tn, J, H2, rfl, I2, T, st2, f2, q⟩ := h2'
  refine comp_block (RR := fun acc C => compPost (model X.prog X.w) X.A X.xe none (EP X pins σ Q) acc C) hc I2 hS Sc h1 h2 T st2 f2 hg ht he q ?_
  rintro D C H' s' I' f' ⟨m, hm⟩ qD
  exact ⟨m, hm, fun h' hs' => ⟨.ref D, H', I'.turned (t' := s'.toks) (fun b o hb e => (hs'.2 b hb).trans e) f'.1 f'.2.1 f'.2.2.2.1 f'.2.2.2.2.1 f'.2.2.2.2.2, rfl, qD⟩⟩
end
end L2
namespace L2
open PySem PySem.Spec PyProof.Rows
section
variable {X : Cx}
def tTupRev (K : PySem.W.Frag) (ta : TA) : TE := fun σ H Q => ta σ H fun vs H1 => ∃ a xs, vs = [.ref a] ∧ SqT K H1 a xs ∧ ∀ p, H1 p = none → Q (.ref p) (upd H1 p (.tup xs.reverse))
def tBMT (r : V → List V → Hp → VK → Prop) (to : TE) (t : TA) : TE := fun σ H Q => to σ H fun x H1 => (∃ a xs, x = .ref a ∧ H1 a = some (.tup xs)) ∧ t σ H1 fun xs H2 => r x xs H2 Q
variable {o e : Expr} {es : List Expr} {to : TE} {t : TA} {name : Str} {apos cpos : Pos} {id : String} {r : V → List V → Hp → VK → Prop}
def rIndexT (K : PySem.W.Frag) : V → List V → Hp → VK → Prop := fun x vs H Q => ∃ (a : Addr) (ns : List Int) (k : Int), x = .ref a ∧ vs = [.int k] ∧ SqT K H a (ns.map V.int) ∧ k ∈ ns ∧ Q (.int (ns.idxOf k : Nat)) H
end
end L2
namespace Tn
open PySem L2
def spStir : Sp := fun vs H Q _ => ∃ c k : Int, vs = [.int c, .int k] ∧ ∀ z : Int, Q (.int z) H
def spCell (K : PySem.W.Frag) : Sp := fun vs H Q _ => ∃ (a : Addr) (ns : List Int) (k : Int), vs = [.ref a, .int k] ∧ SqL K H a (ns.map V.int) ∧ ns.length ≤ 63 ∧ 0 ≤ k ∧ k ≤ 1000000 ∧ ∀ z : Int, Q (.int z) H
def spMany : Sp := fun vs H Q _ => ∃ c : Int, vs = [.int c] ∧ ∀ m : Nat, 1 ≤ m → m ≤ 60 → Q (.int (m : Int)) H
def spOrder (K : PySem.W.Frag) : Sp := fun vs H Q _ => ∃ (a : Addr) (ns : List Int) (f : Int) (m : Nat), vs = [.ref a, .int f, .int (m : Int)] ∧ SqL K H a (ns.map V.int) ∧ ns.length ≤ 63 ∧ 0 ≤ f ∧ f ≤ 1000 ∧ m ≤ 60 ∧
  ∀ (l : Addr) (ord : List Int) (H' : Hp), H l = none → H' l = some (.lst (ord.map V.int)) → Same H H' → IsOrd ord → ord.length = m → Q (.ref l) H'
def spTold (K : PySem.W.Frag) : Sp := fun vs H Q _ => ∃ (p d : Addr) (ns : List Int), vs = [.ref p, .ref d] ∧ H p = some (.tup (ns.map V.int)) ∧ ns.length ≤ 1000 ∧ (SqL K H d (ns.map V.int) ∨ SqT K H d (ns.map V.int)) ∧ ∀ H', Same H H' → Q (.bl true) H'
structure Blt (mg : Str → Option Value) : Prop where
  len : mg "len" = none
  rng : mg "range" = none
  lst : mg "list" = none
  tup : mg "tuple" = none
  isi : mg "isinstance" = none
  int : mg "int" = none
  bl : mg "bool" = none
theorem boot_isi : bootBuiltins "isinstance" = some (.builtin "isinstance") := by decide +kernel
theorem boot_ty_tuple : bootBuiltins "tuple" = some (.type "tuple") := by decide +kernel
theorem boot_ty_int : bootBuiltins "int" = some (.type "int") := by decide +kernel
theorem same_upd {H : Hp} {a : Addr} {o : HO} (h : H a = none) : Same H (upd H a o) := fun b u e => by rw [upd_ne (ne_of_none e h)]; exact e
theorem ints_get {ns : List Int} {i : Nat} {y : V} (h : (ns.map V.int)[i]? = some y) : ∃ z, ns[i]? = some z ∧ y = V.int z := by
  rw [List.getElem?_map] at h
  cases e : ns[i]? with
  | none => rw [e] at h; cases h
  | some z => rw [e] at h; exact ⟨z, rfl, (Option.some.inj h).symm⟩
theorem get_ints {ns : List Int} {i : Nat} {z : Int} (h : ns[i]? = some z) : (ns.map V.int)[i]? = some (V.int z) := by
  rw [List.getElem?_map, h]; rfl
theorem at_ints {ns : List Int} {j : Nat} {z : Int} (h : ns[j]? = some z) : atI (ns.map V.int) (j : Int) = some (V.int z) := atI_nat (get_ints h)
theorem line1000 {n : Nat} (h : n ≤ 1000) : n ≤ sizeLine := Nat.le_of_lt (small1000 h)
section
variable {P : Program} {w : World} {K : PySem.W.Frag} {mg : Str → Option Value} {base : Heap}
end
end Tn
namespace Tn
open PySem PySem.W PySem.Calls PyProof.Rows PySem.Spec PySem.Builtin PySem.Builtin.ObjectAttr PySem.Builtin.Getset_descriptor
structure ExcTxt (K : Frag) (D : Addr) : Prop where
  cls : (clsIn K D).isSome = true
  ga : findIn K (.ref D) "__getattribute__" = some (some (.builtin "BaseException.__getattribute__"))
  hook : findIn K (.ref D) "__getattr__" = some none
  ca : findIn K (.ref D) "__class__" = some (some (.builtin "object.__class__"))
  sp : specialIn K (.builtin "object.__class__") "__get__" = some (some (.builtin "getset_descriptor.__get__"))
  tk : takesIn K (.builtin "object.__class__") = some true
  ob : mroIn K D (.type "object") = some true
  be : mroIn K D (.type "BaseException") = some true
theorem ga_bind (v : Value) : bindSpecial (.builtin "BaseException.__getattribute__") v = pure (.builtin "BaseException.__getattribute__", [v]) := F.excAttr_ValueError.ga.bind v
theorem ga_kind : builtinKind "BaseException.__getattribute__" = some .slot := by decide +kernel
theorem ga_split : splitId "BaseException.__getattribute__" = some ("BaseException", "__getattribute__") := by decide +kernel
def ExAt (h : Heap) (x D : Addr) : Prop := ∃ ox, h.get? x = some ox ∧ ox.cls = .ref D
section
variable {prog : Program} {w : World} {A : Around} {E : Value → Shared → Prop} {s : Shared} {K : Frag} {x D : Addr}
theorem ExAt.type {M : Model} {h : Heap} (I : ExAt h x D) : Looks M h (typeOf (.ref x)) (.ref D) := by
  obtain ⟨ox, hx, hc⟩ := I
  exact hc ▸ (Looks.ld hx).andThen .now
theorem look_data {M : Model} {h : Heap} {a g : Value} {name : Str} (X : K.In h) (ha : findIn K (.ref D) name = some (some a)) (hg : specialIn K a "__get__" = some (some g)) (ht : takesIn K a = some true) :
    Looks M h (find (.ref x) (.ref D) name) (.bind g a) := by
  have L1 := looks_findIn (M := M) X ha
  have L2 : Looks M h (getOf (some a)) (some g) := looks_specialIn X hg
  have L3 := looks_takesIn (M := M) X ht
  have L4 : Looks M h (dataDescriptor? (some a) (some g)) (some (g, a)) := L3.andThen .now
  exact L1.andThen (L2.andThen (L4.andThen (Looks.tag .now)))
theorem class_of {tp : Value} {R : Result → Shared → Prop} (X : K.In s.heap) (I : ExAt s.heap x D) (hm : mroIn K D (.type "object") = some true) (h : R (.ok (.ret (.ref D))) s) :
    codeAny (model prog w) A (.call (.builtin "getset_descriptor.__get__") ⟨[.builtin "object.__class__", .ref x, tp], []⟩) R s := by
  obtain ⟨hh, g, dr, t, os⟩ := s
  have T0 := I.type (M := model prog w)
  have T1 := looks_mroIn (M := model prog w) X hm
  refine codeAny_call_builtin KF.slot_gs.plain KF.entry_gs (KF.slot_gs.check _ _ _ _ _ _ _ _ KF.type_class (KF.args_gs _ _ _) ?_)
  unfold Builtin.«getset_descriptor.__get__»
  unfold descrGet
  rw [dga_obj]; refine wpAny_bind (wpAny_pure ?_)
  unfold descrGetter descrCheckInstance
  unfold descrNameAndClass isInstance
  simp only [KF.owner_class]; repeat lk
  refine ⟨Code.quiet_builtin _ (by decide +kernel), ?_⟩
  refine codeAny_builtin KF.entry_class ?_
  unfold Builtin.«object.__class__»
  unfold shownTypeOf
  repeat lk
  exact h
theorem exc_class {Q : Option Value → Shared → Prop} (X : K.In s.heap) (T : ExcTxt K D) (I : ExAt s.heap x D) (h : Q (some (.ref D)) { s with toks := s.toks + 1 }) : wpAny (model prog w) A (getAttr? (.ref x) "__class__") Q E s := by
  obtain ⟨hh, g, d, t, os⟩ := s
  have L0 := I.type (M := model prog w)
  have L1 := looks_findIn (M := model prog w) X T.ga
  have L2 := looks_findIn (M := model prog w) X T.hook
  have L3 := look_data (M := model prog w) (x := x) X T.ca T.sp T.tk
  have L4 : Looks (model prog w) hh (isInstance (.ref x) (.type "BaseException")) true := L0.andThen (looks_subIn X T.be)
  unfold getAttr? getAttrBy? getAttrBy
  refine wpAny_bind (wpAny_mkText (wpAny_bind (wpAny_attempt (wpAny_holding (wpAny_bind (L0.at (wpAny_bind (L1.at ?_))))))))
  show wpAny _ _ (getAttrByItsOwn _ _ _ _ _ _) _ _ _
  unfold getAttrByItsOwn hookBefore
  refine wpAny_bind (L2.at ?_)
  refine wpAny_bind (wpAny_attempt (wpAny_holding ?_))
  show wpAny _ _ (boundAndCalled _ _ _) _ _ _
  unfold boundAndCalled
  refine wpAny_bind (wpAny_of_eq (ga_bind _) ?_)
  show wpAny _ _ (call (.builtin "BaseException.__getattribute__") [.ref x, .str "__class__" t]) _ _ _
  refine wpAny_call (codeAny_call_builtin F.excAttr_ValueError.ga.plain F.entry_bexc_ga ?_)
  have ha := F.args_bexc_ga (.ref x) (.str "__class__" t)
  simp only [checkBuiltinCall, ga_kind, ga_split]
  refine wpAny_bind (L4.at ?_)
  rw [if_neg (by decide)]
  have go : wpAny (model prog w) A.in1 (Builtin.«object.__getattribute__» ⟨[.ref x, .str "__class__" t], []⟩) (fun fin s' => fin = .done (.ret (.ref D)) ∧ s' = ⟨hh, g, d, t + 1, os⟩) (fun _ _ => False) ⟨hh, g, d, t + 1, os⟩ := by
    unfold Builtin.«object.__getattribute__»
    refine wpAny_bind (wpAny_of_eq (a := (Value.ref x, [Value.str "__class__" t])) rfl ?_)
    refine wpAny_bind (wpAny_of_eq (a := Str.ofString "__class__") rfl ?_)
    refine wpAny_bind (L0.at ?_)
    refine wpAny_bind (L3.at ?_)
    show wpAny _ _ (holding [.builtin "object.__class__"] (call (.builtin "getset_descriptor.__get__") [.builtin "object.__class__", .ref x, .ref D]) >>= ret) _ _ _
    refine wpAny_bind (wpAny_holding (wpAny_call (class_of (s := ⟨hh, g, d, t + 1, os⟩) X I T.ob ?_)))
    exact wpAny_pure ⟨rfl, rfl⟩
  have fin : ∀ (fn : Fin) (s' : Shared), (fn = .done (.ret (.ref D)) ∧ s' = ⟨hh, g, d, t + 1, os⟩) → wpAny (model prog w) A (handedOut (.ref D)) (fun a s' => wpAny (model prog w) A (pure (some a)) Q E s') (fun e s' => wpAny (model prog w) A (do
      let b ← isInstance e (Value.type "AttributeError")
      if b = true then pure none else throw e) Q E s') s' := by
    rintro fn s' ⟨_, rfl⟩
    exact handed_on rfl (wpAny_pure h)
  cases hsig : Manifest.signature? "BaseException.__getattribute__" with
  | none =>
    refine wpAny_pure (wpAny_mono go (fun fn s' z => ?_) fun _ _ z => z.elim)
    have := fin fn s' z
    obtain ⟨rfl, _⟩ := z
    exact this
  | some sig =>
    simp only [argsOk, hsig] at ha
    have h2 : Bind.checkArgs "BaseException.__getattribute__" sig ⟨[.ref x, .str "__class__" t], []⟩ = pure () := ha
    show wpAny _ _ (Bind.checkArgs "BaseException.__getattribute__" sig ⟨[.ref x, .str "__class__" t], []⟩) _ _ _
    rw [h2]
    refine wpAny_pure (wpAny_mono go (fun fn s' z => ?_) fun _ _ z => z.elim)
    have := fin fn s' z
    obtain ⟨rfl, _⟩ := z
    exact this
theorem kitx_exc (T : ExcTxt K D) : KitX K (.ref x) (.ref D) (fun h => ExAt h x D) where
  ty := fun _ _ _ I => I.type
  it := fun _ _ X _ => by
    have hcD := T.cls
    unfold clsIn at hcD
    split at hcD
    · rename_i ho
      intro A' Q' E' s' k q
      unfold isType loadHead
      exact wpAny_bind (wpAny_loadPart (k _ _ (X _ _ ho)) (wpAny_pure q))
    · cases hcD
  ne := fun h tp dd its n sl X htp => by
    have hcD := T.cls
    refine Bool.eq_false_iff.mpr fun q => ?_
    have e : D = tp := Value.ref.inj (beq_iff_eq.mp q)
    subst e
    unfold clsIn at hcD
    split at hcD
    · rename_i ho
      have z := (X _ _ ho).symm.trans htp
      cases z
    · cases hcD
  ca := fun X I k => exc_class X T I k
theorem exc_match {C : Addr} {Q : Bool → Shared → Prop} (X : K.In s.heap) (T : ExcTxt K D) (I : ExAt s.heap x D) (hC : (clsIn K C).isSome = true) (hty : typeIn K (.ref C) = some (.type "type")) (hb : mroIn K C (.type "BaseException") = some true) (hm : mroIn K D (.ref C) = some true)
    (h : Q true s) : wpAny (model prog w) A (excMatches (.ref x) (.ref C)) Q E s := by
  obtain ⟨hh, g, d, t, os⟩ := s
  have L0 := I.type (M := model prog w)
  have L1 : Looks (model prog w) hh (isInstance (.ref C) (.type "tuple")) false := (looks_typeIn (M := model prog w) X hty).andThen (Looks.of_pure (by rw [isSubtype_type]; kernel_rfl))
  have L2 : Looks (model prog w) hh (isType (.ref C)) true := by
    unfold clsIn at hC
    split at hC
    · rename_i ho
      intro A' Q' E' s' k q
      unfold isType loadHead
      exact wpAny_bind (wpAny_loadPart (k _ _ (X _ _ ho)) (wpAny_pure q))
    · cases hC
  have L3 : Looks (model prog w) hh (isSubtype (.ref C) (.type "BaseException")) true := looks_subIn X hb
  have L4 : Looks (model prog w) hh (isSubtype (.ref D) (.ref C)) true := looks_subIn X hm
  unfold excMatches
  refine wpAny_bind (L1.at ?_)
  rw [if_neg Bool.false_ne_true]
  refine wpAny_bind (wpAny_pure ?_)
  simp only [List.forIn_cons, List.forIn_nil]
  unfold isExcClass
  refine wpAny_bind (wpAny_bind (wpAny_bind (wpAny_bind (L2.at ?_))))
  rw [if_pos rfl]
  refine L3.at ?_
  rw [if_neg (by decide)]
  refine wpAny_pure (wpAny_pure ?_)
  refine wpAny_bind (L0.at ?_)
  refine wpAny_bind (wpAny_bind (wpAny_bind (L4.at ?_)))
  rw [if_pos rfl]
  exact wpAny_pure (wpAny_pure (wpAny_pure h))
end
end Tn
namespace Tn
open L2 PySem PySem.W PySem.Calls PyProof.Rows PySem.Spec
section
variable {P : Program} {w : World} {H H' : Hp} {h : Heap} {a : Addr} {o : HO}
theorem obj_has (x : ObjOk P w H h a o) : ∃ u, h.get? a = some u := by
  cases o with
  | lst xs => obtain ⟨_, _, _, _, e⟩ := x; exact ⟨_, e⟩
  | tup xs => obtain ⟨_, _, _, _, e, _⟩ := x; exact ⟨_, e⟩
  | dK kvs => obtain ⟨_, _, _, _, o, _, _, e, _⟩ := x; exact ⟨_, e⟩
  | dT kvs => obtain ⟨_, _, _, _, o, _, _, e, _⟩ := x; exact ⟨_, e⟩
  | set S n => obtain ⟨o, _, _, _, e, _⟩ := x; exact ⟨_, e⟩
  | ins C dx fs => obtain ⟨_, _, _, e, _⟩ := x; exact ⟨_, e⟩
  | own y => obtain ⟨_, e⟩ := x; exact ⟨_, e⟩
  | xd fs => obtain ⟨_, ⟨_, _, _, e, _⟩, _⟩ := x; exact ⟨_, e⟩
  | rng lo hi => obtain ⟨_, _, _, e⟩ := x; exact ⟨_, e⟩
  | frz ob u => obtain ⟨e, _⟩ := x; exact ⟨_, e⟩
  | tbl ps => exact ⟨_, (show h.get? a = some _ from x)⟩
  | lam q => obtain ⟨_, e, _⟩ := x; exact ⟨_, e⟩
  | met f y => exact ⟨_, (show h.get? a = some _ from x)⟩
  | ext φ => obtain ⟨_, ⟨_, e⟩, _⟩ := x; exact ⟨_, e⟩
end
structure Cover (B h0 : Heap) (fs : List Addr) (H' : Hp) : Prop where
  trk : ∀ a o, H' a = some o → ∃ u, B.get? a = some u
  std : ∀ b o, h0.get? b = some o → b ∉ fs → ∃ u, B.get? b = some u
theorem lie_step {P : Program} {w : World} {fs : List Addr} {H H' : Hp} {B h0 h h' : Heap} (u : Un fs [] H H' h0 h) (ok : HOk P w H' h) (c : Cover B h0 fs H') (hf : ∀ b ∈ fs, ∃ o, h.get? b = some o ∧ ∀ vs, o.data ≠ .fields vs)
    (k : B.StaysIn h) (k' : B.StaysIn h') (sl : h.UpToSlots h') : Un fs [] H H' h0 h' ∧ HOk P w H' h' := by
  have inB : ∀ b o v, B.get? b = some v → h.get? b = some o → h'.get? b = some o := fun b o v e q => by
    have := k b v e
    rw [q] at this; cases this
    exact k' b _ e
  refine ⟨⟨fun b o e n hb hx => ?_, fun b o e n hb hx => ?_, u.free, fun b o e hx => ?_, u.tups, u.frzs, u.tbls⟩, fun a o e => ?_⟩
  · obtain ⟨v, hv⟩ := c.std b o e hb
    exact inB b o v hv (u.keep b o e n hb hx)
  · obtain ⟨s1, e1⟩ := u.slot b o e n hb hx
    obtain ⟨o2, e2, d2⟩ := hf b hb
    rw [e1] at e2; cases e2
    obtain ⟨s2, e3⟩ := sl b _ e1 d2
    exact ⟨s2, e3⟩
  · obtain ⟨o1, e1⟩ := u.there b o e hx
    by_cases hb : b ∈ fs
    · obtain ⟨o2, e2, d2⟩ := hf b hb
      obtain ⟨s2, e3⟩ := sl b _ e2 d2
      exact ⟨_, e3⟩
    · obtain ⟨v, hv⟩ := c.std b o e hb
      exact ⟨_, inB b o1 v hv e1⟩
  · refine (ok a o e).stay (fun b v hb q => ?_) (fun _ q => q) fun _ _ q => q
    rcases hb with rfl | hb
    · obtain ⟨z, hz⟩ := c.trk _ _ e
      exact inB _ v z hz q
    · obtain ⟨z, hz⟩ := c.trk _ _ hb
      exact inB _ v z hz q
def CXV (P : Program) (w : World) : CXT := fun outer H s E e s' => ∃ (x : Addr) (cls a0 : Value) (B : Heap) (H' : Hp), e = .ref x ∧ s'.os = s.os ∧ AllBare s'.gens ∧ Un (frs outer) [] H H' s.heap s'.heap ∧ HOk P w H' s'.heap ∧
  Heap.FlyingW B outer x cls a0 s'.heap ∧ Cover B s.heap (frs outer) H' ∧ H' x = none ∧ E cls none H'
theorem fly_frames {B h : Heap} {l : List Env} {x : Addr} {cls a0 : Value} (f : Heap.FlyingW B l x cls a0 h) : ∀ b ∈ frs l, ∃ o, h.get? b = some o ∧ ∀ vs, o.data ≠ .fields vs := fun b hb => (f.2.2.1.mem hb).2
section
variable {P : Program} {w : World} {K : Frag} {mg : Str → Option Value} {base : Heap} {N : List Str} {qual : Str} {scope : Scope} {f : Addr} {cd : Value} {A : Around} {outer : List Env} {s : Shared} {H : Hp} {E : XK}
theorem out_std {X : Cx} {pins : List (Addr × Obj)} {σ : L2.St} {H1 : Hp} {s1 : Shared} (I : Inv X pins σ H1 s1) (hx : X.ex = []) : ∀ b o, X.s₀.heap.get? b = some o → b ∉ X.fs → (∃ o', s1.heap.get? b = some o') ∧ b ∉ frs X.stack := fun b o e hb => by
  refine ⟨I.base.there b o e (by rw [hx]; simp), fun hz => ?_⟩
  rcases List.mem_cons.mp (I.stkSub b hz) with q | q
  · have h1 := Heap.lt_size e
    have h2 := I.ok.above
    rw [q] at h1
    exact absurd (Nat.lt_of_lt_of_le h1 h2) (Nat.lt_irrefl _)
  · exact hb q
theorem passV : Passes (CXV P w) (cxOf (CXV P w) P w K mg base N qual scope f cd A outer s H E) E := by
  intro pins σ H1 s1 e s' I h
  obtain ⟨x, cls, a0, B, H', rfl, os, bare, un, hok, fl, c, hn, hE⟩ := h
  show wpAny _ _ (leaving _ _) _ _ _
  refine wpAny_leaves_onW (base := B) (cls := cls) (a0 := a0) I.ok.frames rfl fl fun h2 fl2 sl => ?_
  obtain ⟨un2, hok2⟩ := lie_step un hok c (fly_frames fl) fl.1 fl2.1 sl
  have J := I.call' (s' := { s' with heap := h2 }) (ch := []) os un2 hok2 bare (fun b z => absurd z (by simp))
  refine ⟨x, cls, a0, B, H', rfl, J.os, J.bare, J.base, J.hok, fl2, ⟨c.trk, fun b o e hb => ?_⟩, hn, hE⟩
  obtain ⟨⟨o', e'⟩, nb⟩ := out_std I rfl b o e hb
  exact c.std b o' e' nb
def Throws (X : Cx) (E : XK) : Prop := ∀ (pins : List (Addr × Obj)) (σ : L2.St) (H1 : Hp) (s1 : Shared) (h' : Heap) (e C : Addr) (vs : List Value), Inv X pins σ H1 s1 → Heap.MadeExcOf s1.heap h' e (.ref C) vs → E (.ref C) none H1 → X.xe (.ref e) { s1 with heap := h' }
theorem throwV : Throws (cxOf (CXV P w) P w K mg base N qual scope f cd A outer s H E) E := by
  intro pins σ H1 s1 h' e C vs I m hE
  show wpAny _ _ (leaving _ _) _ _ _
  have st := I.stack
  have hin : ∀ env ∈ (cxOf (CXV P w) P w K mg base N qual scope f cd A outer s H E).stack, ∀ b, env.frame = some b → b ∈ frs (cxOf (CXV P w) P w K mg base N qual scope f cd A outer s H E).stack := fun env he b hb => List.mem_filterMap.mpr ⟨env, he, hb⟩
  refine wpAny_leaves_madeW (base := hideAll s1.heap (frs (cxOf (CXV P w) P w K mg base N qual scope f cd A outer s H E).stack)) I.ok.frames rfl (fun b o q => of_hideAll _ q) (funFrames_hide st hin) m fun h2 t fl _ _ sl => ?_
  have c : Cover (hideAll s1.heap (frs (cxOf (CXV P w) P w K mg base N qual scope f cd A outer s H E).stack)) s1.heap (frs (cxOf (CXV P w) P w K mg base N qual scope f cd A outer s H E).stack) H1 :=
    ⟨fun a o q => by
      obtain ⟨u, hu⟩ := obj_has (I.hok a o q)
      exact ⟨u, hideAll_get _ hu fun z => by rw [I.stkFree a z] at q; cases q⟩, fun b o q hb => ⟨o, hideAll_get _ q hb⟩⟩
  have fr : ∀ b ∈ frs (cxOf (CXV P w) P w K mg base N qual scope f cd A outer s H E).stack, ∃ o, h'.get? b = some o ∧ ∀ vs, o.data ≠ .fields vs := fun b hb => by
    obtain ⟨_, o, ho, hd⟩ := st.mem hb
    exact ⟨o, m.keeps b o ho, hd⟩
  obtain ⟨un2, hok2⟩ := lie_step (Un.kept m.keeps) (I.hok.kept m.keeps) c fr (fun b o q => m.keeps b o (of_hideAll _ q)) fl.1 sl
  have J := I.call' (s' := { s1 with heap := h2 }) (ch := []) rfl un2 hok2 I.bare (fun b z => absurd z (by simp))
  refine ⟨e, .ref C, .ref t, _, H1, rfl, J.os, J.bare, J.base, J.hok, fl, ⟨c.trk, fun b o e hb => ?_⟩, ?_, hE⟩
  · obtain ⟨⟨o', e'⟩, nb⟩ := out_std I rfl b o e hb
    exact c.std b o' e' nb
  · cases q : H1 e with
    | none => rfl
    | some o =>
      obtain ⟨u, hu⟩ := obj_has (I.hok e o q)
      rw [m.new] at hu; cases hu
theorem funV {x : Str} {st : Stmt} {fd : FuncData} {ps : List Str} {k : Nat} {sp : Sp} (F : L2.Fun K x qual st f fd) (S : FnScope N ps (defScope st)) (len : ∀ vs H Q E, sp vs H Q E → vs.length = ps.length)
    (hbody : ∀ (cdv : Value) (A : Around) (outer : List Env) (s : Shared) (H : Hp) (vs : List V) (Q : VK) (E : XK), Room k (A.deeper (envOfC qual (defScope st) s.heap.objs.size f cdv)) → sp vs H Q E →
      ∃ t, PSs (cxOf (CXV P w) P w K mg base N qual (defScope st) f cdv A outer s H E) (defBody st) t ∧ t { nx := fun _ H' => Q .non H', rt := Q } (start N vs) H) : FnOk P w K mg base (CXV P w) (k + 1) f fd ps sp := by
  obtain ⟨oc, od, kV, doc, pm, an, cdv, ct, osl, rfl, lk, hcd⟩ := F.ex
  exact fn_of lk hcd S len fun A outer s H vs Q E hr hsp => hbody cdv A outer s H vs Q E hr hsp
end
theorem exc_obj {K : Frag} {h : Heap} {C : Addr} {bmB : List Value} {newId : String} (X : K.In h) (q : excIn K C bmB newId = true) :
    ∃ bm N nm qn bs hdct sn sub ab col dd k0 k1 k2 k3 k5 mN, h.get? C = some (excClassObj nm qn C N bs bm hdct sn sub ab col dd k0 k1 k2 k3 k5 newId) ∧ h.Ns N mN ∧ mN "__init__" = none ∧ OwnTail h bmB bm := by
  unfold excIn at q
  split at q
  case h_2 => cases q
  rename_i dd cd sl ho
  split at q
  case h_2 => cases q
  rename_i C' bm k0 k1 k2 k3 n k5 hm hs
  simp only [Bool.and_eq_true, beq_iff_eq, Bool.not_eq_true'] at q
  obtain ⟨⟨⟨⟨⟨e1, e2⟩, e3⟩, e4⟩, e5⟩, e6⟩ := q
  subst e1 e2
  obtain ⟨nm, bs, mro, ns, qn, hd, sn, sub, ab, col, del⟩ := cd
  dsimp only at hm e3 e5 e6
  subst hm e3
  obtain ⟨l⟩ := sl
  simp only at hs
  subst hs
  exact ⟨bm, ns, nm, qn, bs, hd, sn, sub, ab, col, dd, k0, k1, k2, k3, k5, h.nsMap ns, X _ _ ho, .of_isNs (isNs_of_in X e5), nsMap_none_of_in X e5 e6, tail_of_in X e4⟩
def sRaise (C : Addr) (E : XK) (t : TA) : TS := fun _ σ H => t σ H fun vs H1 => vs.length ≤ sizeLine ∧ E (.ref C) none H1
abbrev bmVE : List Value := [.type "ValueError", .type "Exception", .type "BaseException", .type "object"]
theorem ps_raise {X : Cx} {E : XK} {x : Str} {np cpos pos : Pos} {e : Expr} {es : List Expr} {t : TA} {C : Addr} (ht : Throws X E) (hc : X.calm = true) (hg : Gl X x) (hm : X.mg x = some (.ref C)) (hC : excIn X.K C bmVE "ValueError.__new__" = true) (ha : PA X (e :: es) t)
    (hd : (x == ("__debug__" : Str)) = false := by decide) (he : starEach (e :: es) X.env = (false, eval e X.env) :: starEach es X.env := by rfl) (hpl : (backTo cpos (starEach es X.env)).any (·.1) = false := by rfl) :
    PS X (.Raise (some (.Call (.Name x np) (e :: es) [] cpos)) none pos) (sRaise C E t) := by
  intro pins s σ H D I h
  obtain ⟨bm, N, nm, q, bs, hdct, sn, sub, ab, col, dd, k0, k1, k2, k3, k5, mN, o1, o2, o3, o4⟩ := exc_obj I.ok.mod.kin hC
  have hpl2 : (backTo cpos (starEach (e :: es) X.env)).any (·.1) = false := by
    rw [he]; show (false || (backTo cpos (starEach es X.env)).any (·.1)) = false; rw [hpl]; rfl
  refine wpAny_Raise_call_subT F.excBase_ValueError (C := C) (N := N) (nm := nm) (q := q) (bs := bs) (bm := bm) (hdct := hdct) (sn := sn) (sub := sub) (ab := ab) (col := col) (dd := dd) (k0 := k0) (k1 := k1) (k2 := k2) (k3 := k3) (k5 := k5) (mN := mN)
    (o4.hasType F.excBase_ValueError.hasBase) (I.ok.hd hc) hpl2 o3 (ld_glob I hg hm ⟨rfl, ?_⟩ hd)
  have key := ha cpos pins s σ H _ I h
  rw [he] at key ⊢
  refine Calls.evalArgs_plain (wpAny_mono key (fun us s2 z => ?_) fun _ _ y => y)
  obtain ⟨vs, H1, I1, r, hl, hE⟩ := z
  have kp := I1.bk
  exact ⟨rfl, by rw [← r.length]; exact hl, kp _ _ o1, o2.keeps kp, o4.keeps kp, fun h' e m => ht pins σ H1 s2 h' e C us I1 m hE⟩
end Tn
namespace Tn
open L2 PySem PySem.W PySem.Calls PyProof.Rows PySem.Spec
abbrev caught (X : Cx) (x : Addr) : Cx := { X with A := X.A.mark (some (.ref x)), calm := false, xe := fun _ _ => False }
theorem caught_ok {X : Cx} (ok : X.Ok) (x : Addr) : (caught X x).Ok :=
  ⟨ok.mod, ok.kind, ok.glob, ok.blt, ok.above, ok.inj, ok.has, ok.cab, fun z => (nomatch z), ok.frames, ok.stk, ok.exf, ok.bs, ok.bsz, ok.noex, ok.exfs, ok.funs, ok.frf⟩
section
variable {X : Cx} {pins : List (Addr × Obj)} {σ : L2.St} {H : Hp} {s : Shared}
theorem to_caught (I : Inv X pins σ H s) (x : Addr) : Inv (caught X x) pins σ H s := ⟨caught_ok I.ok x, I.os, I.bare, I.base, I.loc, I.cell, I.free, I.freeC, I.pin, I.hok, I.len⟩
theorem of_caught {x : Addr} (ok : X.Ok) (I : Inv (caught X x) pins σ H s) : Inv X pins σ H s := ⟨ok, I.os, I.bare, I.base, I.loc, I.cell, I.free, I.freeC, I.pin, I.hok, I.len⟩
theorem name_gone {M : Model} {A : Around} {E : Value → Shared → Prop} {i : Nat} {n : Str} {pos : Pos} {Q : Unit → Shared → Prop} (I : Inv X pins σ H s) (hN : X.N.Nodup) (hi : X.N[i]? = some n) (hk : X.env.kindOf n = some .local)
    (h : ∀ s', Inv X pins (σ.set i none) H s' → Q () s') : wpAny M A (do bindName X.env n .none; unbindBehindTheSuite X.env n pos) Q E s := by
  obtain ⟨m, hn, hl⟩ := id I.loc
  have hcls : (X.env.scope.kind == .class || (X.env.scope.kind == .module && X.env.locals != X.env.globals)) = false := by rw [I.ok.kind]; rfl
  refine wpAny_nameGoes_keeps hk hn hcls fun h' v hn' hs => h _ ?_
  have hiσ : i < σ.length := by rw [I.len]; exact (List.getElem?_eq_some_iff.mp hi).1
  obtain ⟨oL, _, _, hoL, _⟩ := id hn
  have ne0 : ∀ b o, X.s₀.heap.get? b = some o → b ≠ X.env.locals := fun b o e => Nat.ne_of_lt (Nat.lt_of_lt_of_le (Heap.lt_size e) I.ok.above)
  have tracked : HOk X.prog X.w H h' := fun b ob e => by
    refine (I.hok b ob e).stay (fun c w' hc q => (hs.2 c ?_).trans q) (fun _ q => q) fun _ _ q => q
    rintro rfl
    rcases hc with rfl | hc
    · rw [I.free] at e; cases e
    · rw [I.free] at hc; cases hc
  refine ⟨I.ok, I.os, I.bare, ⟨fun b o e n hb hx => (hs.2 b (ne0 b o e)).trans (I.base.keep b o e n hb hx), fun b o e n hb hx => ?_, I.base.free, fun b o e hx => ?_, I.base.tups, I.base.frzs, I.base.tbls⟩, ⟨_, hn', fun j y v' e1 e2 e3 => ?_⟩, fun y c e => ?_, I.free, I.freeC, fun p hp => ?_, tracked, by simpa using I.len⟩
  · obtain ⟨sl, e1⟩ := I.base.slot b o e n hb hx
    exact ⟨sl, (hs.2 b (ne0 b o e)).trans e1⟩
  · obtain ⟨o', e1⟩ := I.base.there b o e hx
    exact ⟨o', (hs.2 b (ne0 b o e)).trans e1⟩
  · have hj : j ≠ i := by
      rintro rfl
      rw [List.getElem?_set_self hiσ] at e2
      cases e2
    rw [List.getElem?_set_ne (Ne.symm hj)] at e2
    obtain ⟨u', r', q⟩ := hl j y v' e1 e2 e3
    refine ⟨u', r', ?_⟩
    rcases q with ⟨k, e⟩ | ⟨k, c, e, z⟩
    · have ny : y ≠ n := fun e => hj (nodup_ix hN e1 (e ▸ hi))
      exact .inl ⟨k, by simp [ny, e]⟩
    · exact .inr ⟨k, c, e, z.sameBut hs (I.cne y c e)⟩
  · obtain ⟨w', z⟩ := I.cell y c e
    exact ⟨w', z.sameBut hs (I.cne y c e)⟩
  · obtain ⟨e, n, ne, nf, d⟩ := I.pin p hp
    exact ⟨(hs.2 p.1 ne).trans e, n, ne, nf, d⟩
end
abbrev exO (x D : Addr) : HO := .ext fun h => ExAt h x D
theorem exO_ok {P : Program} {w : World} {H : Hp} {h : Heap} {x D : Addr} (e : ExAt h x D) : ObjOk P w H h x (exO x D) :=
  ⟨e, let ⟨o, q, _⟩ := e; ⟨o, q⟩, fun _ _ ⟨o, q, c⟩ k => ⟨o, k o q, c⟩⟩
theorem un_ext {fs : List Addr} {H H' : Hp} {h h' : Heap} {x : Addr} {o : HO} (u : Un fs [] H H' h h') (hx : h.get? x = none) (hn : H' x = none) : Un fs [] H (upd H' x o) h h' :=
  ⟨u.keep, u.slot, fun b ob e n hx' => by
    have : b ≠ x := by rintro rfl; rw [hx] at e; cases e
    rw [upd_ne this]; exact u.free b ob e n hx', u.there, fun b xs e => by
    have z := u.tups b xs e
    rw [upd_ne (ne_of_none z hn)]; exact z, fun b ob v e => by
    have z := u.frzs b ob v e
    rw [upd_ne (ne_of_none z hn)]; exact z, fun b ps e => by
    obtain ⟨m, z⟩ := u.tbls b ps e
    exact ⟨m, by rw [upd_ne (ne_of_none z hn)]; exact z⟩⟩
theorem hok_ext {P : Program} {w : World} {H' : Hp} {h' : Heap} {x D : Addr} (ok : HOk P w H' h') (hn : H' x = none) (e : ExAt h' x D) : HOk P w (upd H' x (exO x D)) h' := fun b u q => by
  by_cases hb : b = x
  · subst hb; rw [upd_same] at q; cases q; exact exO_ok e
  · rw [upd_ne hb] at q
    exact (ok b u q).stay (fun _ _ _ z => z) (fun c z => by rw [upd_ne (ne_of_none z hn)]; exact z) fun c xs z => by rw [upd_ne (ne_of_none z hn)]; exact z
theorem fly_new {B h h0 : Heap} {l : List Env} {x : Addr} {cls a0 : Value} {H' : Hp} (f : Heap.FlyingW B l x cls a0 h) (c : Cover B h0 (frs l) H') : h0.get? x = none := by
  cases q : h0.get? x with
  | none => rfl
  | some o =>
    exfalso
    by_cases hx : x ∈ frs l
    · obtain ⟨o1, e1, d1⟩ := fly_frames f x hx
      obtain ⟨_, _, _, oe, vs, _, _, _, he, _, hd, _⟩ := f
      rw [he] at e1; cases e1
      exact d1 vs hd
    · obtain ⟨u, hu⟩ := c.std x o q hx
      rw [f.2.1] at hu; cases hu
def sTry (K : Frag) (C : Addr) (sp : Sp) (t : TA) (i : Nat) (tH : Addr → TS) : TS := fun D σ H => t σ H fun vs H1 => sp vs H1 (fun _ H2 => D.nx σ H2) fun cls _ H2 => ∃ Dd, cls = .ref Dd ∧ ExcTxt K Dd ∧ mroIn K Dd (.ref C) = some true ∧
  ∀ x, H2 x = none → tH x { nx := fun σ' H' => D.nx (σ'.set i none) H', rt := fun _ _ => False } (σ.set i (some (.ref x))) (upd H2 x (exO x Dd))
structure CatTxt (K : Frag) (C : Addr) : Prop where
  cls : (clsIn K C).isSome = true
  ty : typeIn K (.ref C) = some (.type "type")
  be : mroIn K C (.type "BaseException") = some true
def rIsX (K : Frag) : List V → Hp → VK → Prop := fun xs H Q => ∃ x D c b, xs = [.ref x, c] ∧ H x = some (exO x D) ∧ ExcTxt K D ∧
  ((∃ n, c = .ty n ∧ kitOne K (.ref D) (.type n) = some b) ∨ (∃ C, c = .ref C ∧ kitOne K (.ref D) (.ref C) = some b) ∨ ∃ (tp : Addr) (cs : List Addr), c = .ref tp ∧ H tp = some (.tup (cs.map V.ref)) ∧ kitAny K (.ref D) (cs.map Value.ref) = some b) ∧ Q (.bl b) H
theorem refs_vals : ∀ (cs : List Addr) {us : List Value}, Vals (cs.map V.ref) us → us = cs.map Value.ref
  | [], _, .nil => rfl
  | c :: cs, _, .cons r t => by rw [refs_vals cs t]; cases r; rfl
theorem call_isx {X : Cx} : CallR X (.builtin "isinstance") (rIsX X.K) := by
  intro pins s σ H xs us Q I r h
  obtain ⟨x, D, c, b, rfl, hx, T, hc, q⟩ := h
  obtain ⟨u, w', rfl, rx, ry⟩ := vals2 r
  obtain rfl : u = Value.ref x := rx
  obtain ⟨ex, _⟩ := I.hok x _ hx
  have fin : ∀ tk, EP X pins σ Q (.bool b) { s with toks := tk } := fun tk => ⟨.bl b, H, I.tok _, rfl, q⟩
  rcases hc with ⟨n, rfl, e⟩ | ⟨C, rfl, e⟩ | ⟨tp, cs, rfl, ht, e⟩
  · obtain rfl : w' = Value.type n := ry
    exact kia_one (kitx_exc T) I.kIn ex e (by intro z; cases z) fin
  · obtain rfl : w' = Value.ref C := ry
    exact kia_one (kitx_exc T) I.kIn ex e (by intro z; cases z) fin
  · obtain rfl : w' = Value.ref tp := ry
    obtain ⟨_, its, rv, o, e1, e2, ⟨nn, e3⟩, e4⟩ := I.hok tp _ ht
    obtain rfl := refs_vals cs rv
    obtain ⟨oc, od, oda, osl⟩ := o
    dsimp only at e2 e3 e4
    subst e2 e3 e4
    exact kia_tup (kitx_exc T) I.kIn ex e1 e (by intro z; cases z) fin
end Tn
namespace Tn
open PySem PySem.Calls
section
variable {prog : Program} {w : World} {A : Around} {E : Value → Shared → Prop} {s : Shared}
end
end Tn
namespace L2
open PySem PySem.Spec PyProof.Rows
section
variable {X : Cx}
def eqK (x y : V) : Option Bool := if flatV x && flatV y then some (eqV x y) else if x = y then (match x with | .ref _ => some true | _ => none) else none
theorem eqK_at {A : Around} {s : Shared} {x y : V} {u v : Value} {b : Bool} (h : eqK x y = some b) (rx : RelV x u) (ry : RelV y v) : SeqAt.EqAt A s u v b := by
  unfold eqK at h
  split at h
  · rename_i hf
    cases h
    have hf' : flatV x = true ∧ flatV y = true := by simpa using hf
    exact eqAt_V rx ry hf'.1 hf'.2
  · split at h
    · rename_i e
      subst e
      cases x with
      | ref a =>
        cases h
        obtain rfl : u = Value.ref a := rx
        obtain rfl : v = Value.ref a := ry
        exact SeqAt.EqAt.same _
      | _ => cases h
    · cases h
def eqKs : List V → List V → Option Bool
  | [], [] => some true
  | x :: xs, y :: ys => (eqK x y).bind fun b => (eqKs xs ys).map fun c => b && c
  | _, _ => none
theorem eqKs_get : ∀ {xs ys : List V} {b : Bool}, eqKs xs ys = some b → xs.length = ys.length ∧ ∃ e : Nat → Bool, (∀ j x y, xs[j]? = some x → ys[j]? = some y → eqK x y = some (e j)) ∧ (List.range xs.length).all e = b
  | [], [], b, h => by cases h; exact ⟨rfl, fun _ => true, (fun _ _ _ e => nomatch e), rfl⟩
  | x :: xs, y :: ys, b, h => by
    unfold eqKs at h
    obtain ⟨b1, h1, h⟩ := Option.bind_eq_some_iff.mp h
    obtain ⟨b2, h2, rfl⟩ := Option.map_eq_some_iff.mp h
    obtain ⟨hl, e, he, ha⟩ := eqKs_get h2
    refine ⟨by simp [hl], fun j => match j with | 0 => b1 | j + 1 => e j, fun j a c ea ec => ?_, ?_⟩
    · cases j with
      | zero => simp only [List.getElem?_cons_zero, Option.some.injEq] at ea ec; subst ea ec; exact h1
      | succ j => simp only [List.getElem?_cons_succ] at ea ec; exact he j a c ea ec
    · rw [List.length_cons, List.range_succ_eq_map, List.all_cons, List.all_map, ← ha]
      rfl
  | [], _ :: _, _, h => nomatch h
  | _ :: _, [], _, h => nomatch h
def rEqS (K : PySem.W.Frag) (neg : Bool) : R2 := fun x y H Q => ∃ a b xs ys, x = .ref a ∧ y = .ref b ∧ SqL K H a xs ∧ SqL K H b ys ∧ ((xs.length ≠ ys.length ∧ Q (.bl neg) H) ∨ ∃ e, eqKs xs ys = some e ∧ Q (.bl (if neg then !e else e)) H)
theorem items_eq {xs ys : List V} {its its2 : List Value} {A : Around} {s : Shared} {e : Nat → Bool} (r1 : Vals xs its) (r2 : Vals ys its2) (he : ∀ j x y, xs[j]? = some x → ys[j]? = some y → eqK x y = some (e j)) :
    ∀ j (h1 : j < its.toArray.size) (h2 : j < its2.toArray.size), SeqAt.EqAt A s its.toArray[j] its2.toArray[j] (e j) := fun j h1 h2 => by
  have l1 := r1.length
  have l2 := r2.length
  have h1' : j < xs.length := by rw [l1]; simpa using h1
  have h2' : j < ys.length := by rw [l2]; simpa using h2
  obtain ⟨v1, e1, rv1⟩ := r1.get (i := j) (x := xs[j]) (by simp [h1'])
  obtain ⟨v2, e2, rv2⟩ := r2.get (i := j) (x := ys[j]) (by simp [h2'])
  have i1 : its.toArray[j] = v1 := by
    have := (List.getElem?_eq_some_iff.mp e1).2
    simpa using this
  have i2 : its2.toArray[j] = v2 := by
    have := (List.getElem?_eq_some_iff.mp e2).2
    simpa using this
  rw [i1, i2]
  exact eqK_at (he j xs[j] ys[j] (by simp [h1']) (by simp [h2'])) rv1 rv2
theorem op_eqL (hu : X.A.units < cLine) : OpR X (compareOp .Eq) (rEqS X.K false) := by
  intro pins s σ H x y v u Q I rx ry h
  obtain ⟨a, b, xs, ys, rfl, rfl, ha, hb, h⟩ := h
  cases rx
  cases ry
  obtain ⟨its, r1, p1, _⟩ := I.list ha
  obtain ⟨its2, r2, p2, _⟩ := I.list hb
  have l1 := r1.length
  have l2 := r2.length
  rcases h with ⟨hl, q⟩ | ⟨k, hk, q⟩
  · exact SeqAt.eq_list_lengthsAt p1.isList p2.isList (by simp only [List.size_toArray, bne_iff_ne]; omega) hu ⟨.bl false, H, I, rfl, q⟩
  · obtain ⟨hl, e, he, hall⟩ := eqKs_get hk
    refine SeqAt.eq_listAt (e := e) p1.isList p2.isList (by simp only [List.size_toArray]; omega) hu (items_eq r1 r2 he) ⟨.bl k, H, I, ?_, q⟩
    show Value.bool _ = Value.bool k
    rw [← hall, List.size_toArray, ← l1]
theorem op_neL (hu : X.A.units < cLine) : OpR X (compareOp .NotEq) (rEqS X.K true) := by
  intro pins s σ H x y v u Q I rx ry h
  obtain ⟨a, b, xs, ys, rfl, rfl, ha, hb, h⟩ := h
  cases rx
  cases ry
  obtain ⟨its, r1, p1, _⟩ := I.list ha
  obtain ⟨its2, r2, p2, _⟩ := I.list hb
  have l1 := r1.length
  have l2 := r2.length
  rcases h with ⟨hl, q⟩ | ⟨k, hk, q⟩
  · exact SeqAt.RcNeAt.lists_lengths p1.isList p2.isList (by simp only [List.size_toArray, bne_iff_ne]; omega) hu X.prog X.w X.xe _ ⟨.bl true, H, I, rfl, q⟩
  · obtain ⟨hl, e, he, hall⟩ := eqKs_get hk
    refine SeqAt.RcNeAt.lists (e := e) p1.isList p2.isList (by simp only [List.size_toArray]; omega) hu (items_eq r1 r2 he) X.prog X.w X.xe _ ⟨.bl (!k), H, I, ?_, q⟩
    show Value.bool _ = Value.bool (!k)
    rw [← hall, List.size_toArray, ← l1]
end
theorem comp_inv {J : It} {n : Nat} {te : TE} {js : List Nat} {σ : St} {H1 : Hp} {Q : VK} {D : Addr} (P : Nat → List V → Hp → Prop) (h0 : P 0 [] (upd H1 D (.lst []))) (hD : ∀ i acc H', P i acc H' → H' D = some (.lst acc) ∧ acc.length = i) (hn : n ≤ sizeLine)
    (hgo : ∀ i acc H', i < n → P i acc H' → J.go i H') (hst : ∀ acc H', P n acc H' → J.stop n H' ∧ Q (.ref D) H')
    (hstep : ∀ i acc H' y H2 (R : VK), i < n → P i acc H' → J.yld i H' y H2 → (∀ z H5, H5 D = some (.lst acc) → P (i + 1) (acc ++ [z]) (upd H5 D (.lst (acc ++ [z]))) → R z H5) → te (some y :: js.map fun j => (σ[j]?).getD none) H2 R) :
    CompW J (gName 0) tYes te js σ H1 Q D := by
  refine ⟨fun i m acc σ' H' => m = n - i ∧ i ≤ n ∧ P i acc H' ∧ ∃ v, σ' = v :: js.map fun j => (σ[j]?).getD none, ⟨n, by simp, Nat.zero_le _, h0, none, rfl⟩, ?_⟩
  rintro i m acc σ' H' ⟨rfl, hi, hP, v, rfl⟩
  refine ⟨(hD i acc H' hP).1, ?_⟩
  by_cases hlt : i < n
  · refine .inr ⟨hgo i acc H' hlt hP, by rw [(hD i acc H' hP).2]; omega, fun y H2 hy => ?_⟩
    show te (some y :: js.map fun j => (σ[j]?).getD none) _ _
    exact hstep i acc H' y H2 _ hlt hP hy fun z H5 e1 e2 => ⟨e1, n - (i + 1), by omega, rfl, hlt, e2, _, rfl⟩
  · have e : i = n := by omega
    subst e
    exact .inl (hst acc H' hP)
end L2
namespace L2
open PySem PySem.Spec PyProof.Rows
section
variable {X : Cx}
end
end L2
namespace L2
open PySem
def csB (S scope : Scope) (x : Str) (N P : List Str) (js : List Nat) : Bool :=
  (scope.kind == .function) && scope.names.all (fun y => !(y.2 == .cell)) && scope.names.all (fun y => !(y.2 == .local) || scope.names.lookup y.1 == some .local) &&
  scope.names.all (fun y => !(y.2 == .free) || (S.names.lookup y.1 == some .cell || S.names.lookup y.1 == some .free)) && (scope.names.lookup x == some .local) && decide N.Nodup && (N == x :: (js.map fun j => (P[j]?).getD x)) &&
  js.all (fun j => match P[j]? with | some y => scope.names.lookup y == some .free | none => false)
theorem cs_of {S scope : Scope} {x : Str} {N P : List Str} {js : List Nat} (h : csB S scope x N P js = true) : CScope S scope x N P js := by
  unfold csB at h
  simp only [Bool.and_eq_true, List.all_eq_true, beq_iff_eq, decide_eq_true_eq, Bool.or_eq_true, Bool.not_eq_true'] at h
  obtain ⟨⟨⟨⟨⟨⟨⟨h1, h2⟩, h3⟩, h4⟩, h5⟩, h6⟩, h7⟩, h8⟩ := h
  refine ⟨h1, fun y hy e => ?_, fun y hy e => ?_, fun y hy e => ?_, h5, h6, h7, fun j hj => ?_⟩
  · have := h2 y hy; rw [e] at this; exact absurd this (by decide)
  · rcases h3 y hy with z | z
    · rw [e] at z; exact absurd z (by decide)
    · exact z
  · rcases h4 y hy with z | z
    · rw [e] at z; exact absurd z (by decide)
    · exact z
  · have := h8 j hj
    split at this
    · rename_i y ey
      exact ⟨y, ey, by simpa using this⟩
    · cases this
end L2
namespace L2
open PySem PySem.Spec PyProof.Rows
def isStar : Expr → Bool
  | .Starred _ _ => true
  | _ => false
theorem star_cons {e : Expr} {es : List Expr} {env : Env} (h : isStar e = false) : starEach (e :: es) env = (false, eval e env) :: starEach es env := by
  rw [starEach]
  intro e' p z
  rw [z] at h
  cases h
theorem pa_c {X : Cx} {e : Expr} {es : List Expr} {te : TE} {t : TA} (ha : PE X e te) (hr : PA X es t) (hn : isStar e = false := by rfl) : PA X (e :: es) (tCons te t) := pa_cons ha hr (star_cons hn)
end L2
namespace L2
open PySem
theorem if_go {a : TT} {t u : TS} {D : Ends} {σ : St} {H : Hp} (A : Bool) (ha : ∀ Q : Bool → Hp → Prop, Q A H → a σ H Q) (hT : A = true → t D σ H) (hF : A = false → u D σ H) : tIfS a t u D σ H := by
  refine ha _ ?_
  cases A with
  | true => exact hT rfl
  | false => exact hF rfl
end L2
namespace Tn
open PySem L2
def lens (xss : List (List Int)) : List Int := xss.map fun x => (x.length : Int)
def before (xss : List (List Int)) (w : Nat) : Int := ((lens xss).take w).sum
def togF (ord : List Int) (xss : List (List Int)) : List Int := ord.flatMap fun w => (xss.getD w.toNat []).map fun z => before xss w.toNat + z
def Tups (H : Hp) (ps : List Addr) (xss : List (List Int)) : Prop := Paired (fun p xs => H p = some (.tup (xs.map V.int))) ps xss
def spFirsts (K : PySem.W.Frag) : Sp := fun vs H Q _ => ∃ (l : Addr) (ps : List Addr) (xss : List (List Int)), vs = [.ref l] ∧ SqL K H l (ps.map V.ref) ∧ ps.length ≤ 1000 ∧ Tups H ps xss ∧
  ∀ (f : Addr) (H' : Hp), H f = none → H' f = some (.lst (((List.range xss.length).map fun i => before xss i).map V.int)) → Same H H' → Q (.ref f) H'
def spPut (K : PySem.W.Frag) (C : Addr) : Sp := fun vs H Q E => ∃ (o l : Addr) (ord : List Int) (ps : List Addr) (xss : List (List Int)), vs = [.ref o, .ref l] ∧ SqT K H o (ord.map V.int) ∧ ord.length ≤ 1000 ∧ (∀ w ∈ ord, 0 ≤ w ∧ w < ord.length) ∧
  SqL K H l (ps.map V.ref) ∧ ps.length ≤ 1000 ∧ Tups H ps xss ∧ (∀ x ∈ xss, x.length ≤ 1000) ∧
  (xss.length = ord.length → (lens xss).sum ≤ 60 → ∀ (t : Addr) (H' : Hp), H t = none → H' t = some (.tup ((togF ord xss).map V.int)) → Same H H' → Q (.ref t) H') ∧
  (¬ (xss.length = ord.length ∧ (lens xss).sum ≤ 60) → ∀ H', Same H H' → E (.ref C) none H')
theorem pass0V {P : Program} {w : World} {X : Cx} : Passes (CXV P w) X E0 := fun _ _ _ _ _ _ _ ⟨_, _, _, _, _, _, _, _, _, _, _, _, _, h⟩ => h.elim
end Tn
namespace Tn
open PySem L2
theorem boot_max : bootBuiltins "max" = some (.builtin "max") := by decide +kernel
def rLen (K : PySem.W.Frag) : List V → Hp → VK → Prop := fun xs H Q => ∃ p ys, xs = [.ref p] ∧ (SqL K H p ys ∨ SqT K H p ys) ∧ Q (.int ys.length) H
end Tn
namespace Tn
open PySem L2
theorem line_mil {n : Nat} (h : n ≤ 10000000) : n ≤ sizeLine := by rw [sizeLine_eq]; omega
end Tn
namespace Tn
open PySem L2
def spSizes (K : PySem.W.Frag) : Sp := fun vs H Q _ => ∃ (a : Addr) (ns : List Int) (m : Nat), vs = [.ref a, .int (m : Int)] ∧ SqL K H a (ns.map V.int) ∧ ns.length ≤ 63 ∧ 1 ≤ m ∧ m ≤ 60 ∧
  ∀ (l : Addr) (sz : List Int) (H' : Hp), H l = none → H' l = some (.lst (sz.map V.int)) → Same H H' → sz.length = m → (∀ z ∈ sz, 1 ≤ z) → sz.sum ≤ 60 → Q (.ref l) H'
end Tn
namespace Tn
open PySem L2
def spDue (K : PySem.W.Frag) : Sp := fun vs H Q _ => ∃ (o l : Addr) (ord : List Int) (ps : List Addr) (xss : List (List Int)), vs = [.ref o, .ref l] ∧ SqT K H o (ord.map V.int) ∧ ord.length ≤ 1000 ∧ (∀ w ∈ ord, 0 ≤ w ∧ w < ord.length) ∧
  SqL K H l (ps.map V.ref) ∧ Tups H ps xss ∧ xss.length = ord.length ∧ (∀ x ∈ xss, x.length ≤ 1000) ∧ ∀ (f : Addr) (H' : Hp), H f = none → H' f = some (.lst ((togF ord xss).map V.int)) → Same H H' → Q (.ref f) H'
def spRefPut (K : PySem.W.Frag) : Sp := fun vs H Q _ => ∃ (o l : Addr) (ord : List Int) (ps : List Addr) (xss : List (List Int)), vs = [.ref o, .ref l] ∧ SqT K H o (ord.map V.int) ∧ ord.length ≤ 1000 ∧ (∀ w ∈ ord, 0 ≤ w ∧ w < ord.length) ∧
  SqL K H l (ps.map V.ref) ∧ ps.length ≤ 1000 ∧ Tups H ps xss ∧ (∀ x ∈ xss, x.length ≤ 1000) ∧ ¬ (xss.length = ord.length ∧ (lens xss).sum ≤ 60) ∧ ∀ H', Same H H' → Q (.bl true) H'
structure Excs (K : PySem.W.Frag) (T C o1 o2 o3 o4 r1 r2 r3 : Addr) : Prop where
  xC : PySem.W.excIn K C bmVE "ValueError.__new__" = true
  tx : ExcTxt K C
  ct : CatTxt K T
  mr : PySem.W.mroIn K C (.ref T) = some true
  ve : PySem.W.kitOne K (.ref C) (.type "ValueError") = some true
  a4 : PySem.W.kitAny K (.ref C) [.ref o1, .ref o2, .ref o3, .ref o4] = some false
  a3 : PySem.W.kitAny K (.ref C) [.ref r1, .ref r2, .ref r3] = some false
theorem kit_refl (K : PySem.W.Frag) (C : Addr) : PySem.W.kitOne K (.ref C) (.ref C) = some true := by
  unfold PySem.W.kitOne
  rw [if_pos (by simp)]
theorem boot_ve : bootBuiltins "ValueError" = some (.type "ValueError") := by decide +kernel
end Tn
namespace Tn
open PySem L2
theorem cut_head {α : Type} (f : α → V) (ps : List α) (k : Nat) (h : k ≤ ps.length) : cutV (ps.map f) none (some (k : Int)) = (ps.take k).map f := by
  unfold cutV
  rw [HT.sIx_none, HT.sIx_nat, List.drop_zero, List.length_map, Nat.min_eq_left h, Nat.sub_zero, List.map_take]
theorem cut_tail {α : Type} (f : α → V) (ps : List α) (k : Nat) (h : k ≤ ps.length) : cutV (ps.map f) (some (k : Int)) none = (ps.drop k).map f := by
  unfold cutV
  rw [HT.sIx_none, HT.sIx_nat, List.length_map, Nat.min_eq_left h, List.take_of_length_le (by rw [List.length_drop, List.length_map]; exact Nat.le_refl _), List.map_drop]
theorem gname_go {i : Nat} {v : V} {σ : L2.St} {H : Hp} {Q : L2.St → Hp → Prop} (h : Q (σ.set i (some v)) H) : gName i v σ H Q := h
theorem seq_if {c : TT} {t u r : TS} {D : Ends} {σ : L2.St} {H : Hp} (C : L2.St → Hp → Prop) (hrest : ∀ σ' Hx, C σ' Hx → r D σ' Hx) (hmain : (∀ σ' Hx, C σ' Hx → r D σ' Hx) → tIfS c t u { D with nx := r D } σ H) : tSeq (tIfS c t u) r D σ H := hmain hrest
end Tn
namespace Tn
open PySem L2
end Tn
namespace Tn
open PySem PySem.Spec PyProof.Rows
end Tn
namespace L2
open PySem PySem.Spec PyProof.Rows
def IteL (K : PySem.W.Frag) (a : Addr) : It :=
  ⟨fun i H => ∃ xs x, SqL K H a xs ∧ xs[i]? = some x, fun i H x H' => ∃ p y, H p = none ∧ x = .ref p ∧ (∀ xs, SqL K H a xs → xs[i]? = some y) ∧ H' = upd H p (.tup [.int i, y]), fun i H => ∃ xs, SqL K H a xs ∧ xs.length = i⟩
section
variable {X : Cx}
def iEnumL (K : PySem.W.Frag) (ta : TA) : TI := fun σ H R => ta σ H fun vs H1 => ∃ a, vs = [.ref a] ∧ (∃ xs, SqL K H1 a xs) ∧ R (IteL K a) H1
end
end L2
namespace L2
open PySem PySem.Spec PyProof.Rows
section
variable {X : Cx}
end
end L2
namespace Tn
open PySem L2
def NotW (K : PySem.W.Frag) (H : Hp) (x : V) : Prop := ∃ t, TyOf K H x t ∧ (PySem.W.kitOne K t (.type "int") = some false ∨ (PySem.W.kitOne K t (.type "int") = some true ∧ PySem.W.kitOne K t (.type "bool") = some true))
def Plain (K : PySem.W.Frag) (H : Hp) (x : V) : Prop := (∃ i, x = .int i) ∨ (NotW K H x ∧ ∀ i, x ≠ .int i)
theorem Same.ty {K : PySem.W.Frag} {H H' : Hp} (s : Same H H') {x : V} {t : Value} (h : TyOf K H x t) : TyOf K H' x t := by
  cases h with
  | non => exact .non
  | bl x => exact .bl x
  | int i => exact .int i
  | str x => exact .str x
  | flt x => exact .flt x
  | lst e => exact .lst (s _ _ e)
  | frz e => exact .frz (s _ _ e)
  | tup e => exact .tup (s _ _ e)
  | dK e => exact .dK (s _ _ e)
  | dT e => exact .dT (s _ _ e)
  | ins e c a b d f => exact .ins (s _ _ e) c a b d f
def spWhole (K : PySem.W.Frag) : Sp := fun vs H Q _ => ∃ x, vs = [x] ∧ (((∃ i, x = .int i) ∧ Q (.bl true) H) ∨ (NotW K H x ∧ Q (.bl false) H))
def diffG (b : Int) : List Int → List V → Bool
  | _, [] => true
  | met, .int i :: r => if 0 ≤ i ∧ i < b ∧ i ∉ met then diffG b (met ++ [i]) r else false
  | _, _ :: _ => false
def spDiff (K : PySem.W.Frag) : Sp := fun vs H Q _ => ∃ (l : Addr) (xs : List V) (b : Int), vs = [.ref l, .int b] ∧ SqL K H l xs ∧ xs.length ≤ 1000 ∧ (∀ x ∈ xs, Plain K H x) ∧ ∀ H', Same H H' → Q (.bl (diffG b [] xs)) H'
def rank (ws : List Int) (w : Int) : Nat := (ws.filter fun v => decide (v < w)).length
def leftF (ord ws : List Int) : List Int := (ord.filter fun w => decide (w ∈ ws)).map fun w => (rank ws w : Int)
def spLeft (K : PySem.W.Frag) (C : Addr) : Sp := fun vs H Q E => ∃ (o l : Addr) (ord : List Int) (xs : List V), vs = [.ref o, .ref l] ∧ SqT K H o (ord.map V.int) ∧ ord.length ≤ 1000 ∧ SqL K H l xs ∧ xs.length ≤ 1000 ∧ (∀ x ∈ xs, Plain K H x) ∧
  (∀ ws : List Int, xs = ws.map V.int → ws ≠ [] → ws.length < 64 → ws.Nodup → (∀ w ∈ ws, 0 ≤ w ∧ w < ord.length) → ∀ (t : Addr) (H' : Hp), H t = none → H' t = some (.tup ((leftF ord ws).map V.int)) → Same H H' → Q (.ref t) H') ∧
  (xs = [] ∨ (diffG ord.length [] xs = true → xs.length < 64)) ∧ (xs = [] ∨ diffG ord.length [] xs = false → ∀ H', Same H H' → E (.ref C) none H')
def spRefLeft (K : PySem.W.Frag) : Sp := fun vs H Q _ => ∃ (o l : Addr) (ord : List Int) (xs : List V), vs = [.ref o, .ref l] ∧ SqT K H o (ord.map V.int) ∧ ord.length ≤ 1000 ∧ SqL K H l xs ∧ xs.length ≤ 1000 ∧ (∀ x ∈ xs, Plain K H x) ∧
  (xs = [] ∨ diffG ord.length [] xs = false) ∧ ∀ H', Same H H' → Q (.bl true) H'
end Tn
namespace Tn
open PySem L2
def spSome (K : PySem.W.Frag) : Sp := fun vs H Q _ => ∃ (a o : Addr) (ns ord : List Int), vs = [.ref a, .ref o] ∧ SqL K H a (ns.map V.int) ∧ ns.length ≤ 63 ∧ SqT K H o (ord.map V.int) ∧ 1 ≤ ord.length ∧ ord.length ≤ 60 ∧
  ∀ (l : Addr) (ws : List Int) (H' : Hp), H l = none → H' l = some (.lst (ws.map V.int)) → Same H H' → ws.Nodup → (∀ w ∈ ws, 0 ≤ w ∧ w < ord.length) → 1 ≤ ws.length → ws.length ≤ ord.length → Q (.ref l) H'
def spLess (K : PySem.W.Frag) : Sp := fun vs H Q _ => ∃ (l : Addr) (ws : List Int) (z : Int), vs = [.ref l, .int z] ∧ SqL K H l (ws.map V.int) ∧ ws.length ≤ 1000 ∧ ∀ H', Same H H' → Q (.int (rank ws z : Nat)) H'
def BadV (m : Int) (ws : List Int) (v : V) : Prop := (∀ i, v ≠ .int i) ∨ ∃ i, v = .int i ∧ (i ∈ ws ∨ ¬ (0 ≤ i ∧ i < m))
def spSpoilt (K : PySem.W.Frag) : Sp := fun vs H Q _ => ∃ (l : Addr) (ws : List Int) (m c : Int), vs = [.ref l, .int m, .int c] ∧ SqL K H l (ws.map V.int) ∧ 1 ≤ ws.length ∧ ws.length ≤ 60 ∧ 0 ≤ m ∧
  ∀ (x : Addr) (xs : List V) (H' : Hp), H' x = some (.lst xs) → Same H H' → xs.length ≤ 100 → (∀ y ∈ xs, Plain K H' y) → diffG m [] xs = false → Q (.ref x) H'
theorem at_lt {xs : List V} {i : Int} (h0 : 0 ≤ i) (h1 : i < xs.length) : ∃ v, v ∈ xs ∧ atI xs i = some v := by
  have hn : i.toNat < xs.length := by omega
  refine ⟨xs[i.toNat], List.getElem_mem hn, ?_⟩
  have := atI_nat (xs := xs) (j := i.toNat) (v := xs[i.toNat]) (by simp [hn])
  rw [show ((i.toNat : Nat) : Int) = i by omega] at this
  exact this
end Tn
namespace Tn
open PySem L2
def Good (xs : List V) : Prop := 1 ≤ xs.length ∧ xs.length ≤ 60 ∧ diffG xs.length [] xs = true
def spMake (K : PySem.W.Frag) (C : Addr) : Sp := fun vs H Q E => ∃ (l : Addr) (xs : List V), vs = [.ref l] ∧ SqL K H l xs ∧ xs.length ≤ 1000 ∧ (∀ x ∈ xs, Plain K H x) ∧
  (Good xs → ∀ (t : Addr) (H' : Hp), H t = none → H' t = some (.tup xs) → Same H H' → Q (.ref t) H') ∧ (¬ Good xs → ∀ H', Same H H' → E (.ref C) none H')
def spRefMake (K : PySem.W.Frag) : Sp := fun vs H Q _ => ∃ (l : Addr) (xs : List V), vs = [.ref l] ∧ SqL K H l xs ∧ xs.length ≤ 1000 ∧ (∀ x ∈ xs, Plain K H x) ∧ ¬ Good xs ∧ ∀ H', Same H H' → Q (.bl true) H'
def spMade (K : PySem.W.Frag) : Sp := fun vs H Q _ => ∃ (l : Addr) (ws : List Int), vs = [.ref l] ∧ SqL K H l (ws.map V.int) ∧ IsOrd ws ∧ 1 ≤ ws.length ∧ ws.length ≤ 60 ∧ ∀ H', Same H H' → Q (.bl true) H'
def spSmall : Sp := fun vs H Q _ => ∃ c : Int, vs = [.int c] ∧ ∀ (l : Addr) (ws : List Int) (H' : Hp), H l = none → H' l = some (.lst (ws.map V.int)) → Same H H' → 1 ≤ ws.length → ws.length ≤ 4 → Q (.ref l) H'
def spSpoilt1 (K : PySem.W.Frag) : Sp := fun vs H Q _ => ∃ (l : Addr) (ws : List Int) (c : Int), vs = [.ref l, .int c] ∧ SqL K H l (ws.map V.int) ∧ IsOrd ws ∧ 1 ≤ ws.length ∧ ws.length ≤ 60 ∧
  ∀ (x : Addr) (xs : List V) (H' : Hp), H' x = some (.lst xs) → Same H H' → xs.length ≤ 100 → (∀ y ∈ xs, Plain K H' y) → ¬ Good xs → Q (.ref x) H'
theorem boot_ty_str : bootBuiltins "str" = some (.type "str") := by decide +kernel
end Tn
namespace L2
open PySem PySem.Spec PyProof.Rows
theorem assign_Tuple_list {prog : Program} {w : World} {A : Around} {E : Value → Shared → Prop} {s : Shared} {env : Env} {elts : List PySem.Expr} {x1 : Nat} {pos : Pos} {t : Addr} {items : Array Value} {Q : Unit → Shared → Prop}
    (hh : A.handled = none) (ht : s.heap.IsList t items) (hl : (assignEach elts env).length = items.size) (hf : List.findIdx? (fun x => x.fst) (assignEach elts env) = none)
    (hq : ∀ (h' : Heap), Heap.ExtBut s.heap.objs.size s.heap h' → wpAny (model prog w) A (assignInOrder (List.map (fun x => x.snd) (assignEach elts env)) items.toList) Q E { s with heap := h' }) :
    wpAny (model prog w) A (assign (Expr.Tuple elts x1 pos) env (Value.ref t)) Q E s := by
  rw [assign_Tuple]
  refine wpAny_bind (wpAny_standAt ?_)
  unfold unpack
  rw [hf, hl]
  refine wpAny_bind ?_
  refine wpAny_holding ?_
  exact PySem.W.kun_itemsOf hh ht hq
section
variable {X : Cx} {pos : Pos}
def gTupL (K : PySem.W.Frag) (n : Nat) (t : TGs) : TG := fun v σ H Q => ∃ a xs, v = .ref a ∧ SqL K H a xs ∧ xs.length = n ∧ t xs σ H Q
theorem pg_tupL {es : List Expr} {k : Nat} {t : TGs} {n : Nat} (hc : X.calm = true) (h : PGs X es t)
    (hn : (assignEach es X.env).length = n := by rfl) (hst : (assignEach es X.env).findIdx? (·.1) = none := by rfl) : PG X (.Tuple es k pos) (gTupL X.K n t) := by
  intro pins s σ H v u Q I r hw
  obtain ⟨a, xs, e1, hq, hl, hw⟩ := hw
  subst e1
  cases r
  obtain ⟨its, rv, ht, hz⟩ := I.list hq
  refine assign_Tuple_list (I.ok.hd hc) ht.isList (by simp [hn, ← hl, rv.length]) hst fun h' hx => ?_
  have I1 : Inv X pins σ H { s with heap := h' } := I.kept (t' := s.toks) fun b o e => hx b o (Nat.ne_of_lt (Heap.lt_size e)) e
  exact h pins _ σ H xs _ Q I1 (by simpa using rv) hw
end
end L2
namespace Tn
open PySem L2
inductive Nest where
  | word
  | knot (k : Bool) (ps : List Nest)
  | bad
def kS (k : Bool) : Str := if k then "+" else "-"
def aS : Option Bool → Str
  | none => ""
  | some k => kS k
def Typed (K : PySem.W.Frag) (H : Hp) (y : V) : Prop := ∃ t b, TyOf K H y t ∧ PySem.W.kitOne K t (.type "tuple") = some b
inductive NoKnot (K : PySem.W.Frag) (H : Hp) : V → Prop where
  | ty {v : V} {t : Value} : TyOf K H v t → PySem.W.kitOne K t (.type "tuple") = some false → NoKnot K H v
  | len {a : Addr} {xs : List V} : H a = some (.tup xs) → xs.length ≠ 2 → NoKnot K H (.ref a)
  | notStr {a : Addr} {x y : V} {t : Value} : H a = some (.tup [x, y]) → TyOf K H x t → PySem.W.kitOne K t (.type "str") = some false → Typed K H y → NoKnot K H (.ref a)
  | kind {a : Addr} {z : Str} {y : V} : H a = some (.tup [.str z, y]) → z ≠ "+" → z ≠ "-" → Typed K H y → NoKnot K H (.ref a)
  | notTup {a : Addr} {k : Bool} {y : V} {t : Value} : H a = some (.tup [.str (kS k), y]) → TyOf K H y t → PySem.W.kitOne K t (.type "tuple") = some false → NoKnot K H (.ref a)
  | few {a b : Addr} {k : Bool} {xs : List V} : H a = some (.tup [.str (kS k), .ref b]) → H b = some (.tup xs) → xs.length < 2 → NoKnot K H (.ref a)
mutual
def NestAt (K : PySem.W.Frag) (H : Hp) : Nest → V → Prop
  | .word, v => v = .non
  | .knot k ps, v => ∃ a b vs, v = .ref a ∧ H a = some (.tup [.str (kS k), .ref b]) ∧ H b = some (.tup vs) ∧ 2 ≤ vs.length ∧ vs.length ≤ 1000 ∧ NestsAt K H ps vs
  | .bad, v => v ≠ .non ∧ NoKnot K H v
def NestsAt (K : PySem.W.Frag) (H : Hp) : List Nest → List V → Prop
  | [], vs => vs = []
  | n :: r, vs => ∃ v vr, vs = v :: vr ∧ NestAt K H n v ∧ NestsAt K H r vr
end
mutual
def words : Nest → Nat
  | .word => 1
  | .knot _ ps => wordsL ps
  | .bad => 1
def wordsL : List Nest → Nat
  | [] => 0
  | n :: r => words n + wordsL r
end
mutual
def valid : Option Bool → Nest → Bool
  | _, .word => true
  | o, .knot k ps => (!decide (o = some k)) && validL k ps
  | _, .bad => false
def validL : Bool → List Nest → Bool
  | _, [] => true
  | k, n :: r => valid (some k) n && validL k r
end
mutual
def depthN : Nest → Nat
  | .word => 0
  | .knot _ ps => 1 + depthL ps
  | .bad => 0
def depthL : List Nest → Nat
  | [] => 0
  | n :: r => Nat.max (depthN n) (depthL r)
end
mutual
def sizeN : Nest → Nat
  | .word => 1
  | .knot _ ps => 1 + sizeL ps
  | .bad => 1
def sizeL : List Nest → Nat
  | [] => 0
  | n :: r => sizeN n + sizeL r
end
theorem NoKnot.mono {K : PySem.W.Frag} {H H' : Hp} (s : Same H H') {v : V} (h : NoKnot K H v) : NoKnot K H' v := by
  cases h with
  | ty t k => exact .ty (Same.ty s t) k
  | len e k => exact .len (s _ _ e) k
  | notStr e t k y => exact .notStr (s _ _ e) (Same.ty s t) k (let ⟨t', b, t2, kk⟩ := y; ⟨t', b, Same.ty s t2, kk⟩)
  | kind e a b y => exact .kind (s _ _ e) a b (let ⟨t', b', t2, kk⟩ := y; ⟨t', b', Same.ty s t2, kk⟩)
  | notTup e t k => exact .notTup (s _ _ e) (Same.ty s t) k
  | few e1 e2 k => exact .few (s _ _ e1) (s _ _ e2) k
mutual
theorem NestAt.mono {K : PySem.W.Frag} {H H' : Hp} (s : Same H H') : ∀ {n : Nest} {v : V}, NestAt K H n v → NestAt K H' n v
  | .word, _, h => h
  | .knot _ _, _, ⟨a, b, vs, e, h1, h2, h3, h4, h5⟩ => ⟨a, b, vs, e, s _ _ h1, s _ _ h2, h3, h4, NestsAt.mono s h5⟩
  | .bad, _, ⟨h1, h2⟩ => ⟨h1, h2.mono s⟩
theorem NestsAt.mono {K : PySem.W.Frag} {H H' : Hp} (s : Same H H') : ∀ {ns : List Nest} {vs : List V}, NestsAt K H ns vs → NestsAt K H' ns vs
  | [], _, h => h
  | _ :: _, _, ⟨v, vr, e, h1, h2⟩ => ⟨v, vr, e, NestAt.mono s h1, NestsAt.mono s h2⟩
end
theorem NestsAt.len {K : PySem.W.Frag} {H : Hp} : ∀ {ns : List Nest} {vs : List V}, NestsAt K H ns vs → ns.length = vs.length
  | [], _, h => by have h : _ = [] := h; subst h; rfl
  | _ :: _, _, ⟨v, vr, e, _, h2⟩ => by subst e; simp [NestsAt.len h2]
theorem NestsAt.app {K : PySem.W.Frag} {H : Hp} : ∀ {ns ms : List Nest} {vs us : List V}, NestsAt K H ns vs → NestsAt K H ms us → NestsAt K H (ns ++ ms) (vs ++ us)
  | [], _, _, _, h, h' => by have h : _ = [] := h; subst h; exact h'
  | _ :: _, _, _, _, ⟨v, vr, e, h1, h2⟩, h' => by subst e; exact ⟨v, _, rfl, h1, NestsAt.app h2 h'⟩
theorem NestsAt.one {K : PySem.W.Frag} {H : Hp} {n : Nest} {v : V} (h : NestAt K H n v) : NestsAt K H [n] [v] := ⟨v, [], rfl, h, rfl⟩
theorem NestsAt.rep {K : PySem.W.Frag} {H : Hp} : ∀ k : Nat, NestsAt K H (List.replicate k .word) (List.replicate k .non)
  | 0 => rfl
  | k + 1 => ⟨.non, _, rfl, rfl, NestsAt.rep k⟩
theorem NestsAt.get {K : PySem.W.Frag} {H : Hp} : ∀ {ns : List Nest} {vs : List V} {i : Nat} {v : V}, NestsAt K H ns vs → vs[i]? = some v → ∃ n, ns[i]? = some n ∧ NestAt K H n v
  | [], _, _, _, h, e => by have h : _ = [] := h; subst h; cases e
  | n :: _, _, 0, _, ⟨v, vr, e0, h1, _⟩, e => by subst e0; cases e; exact ⟨n, rfl, h1⟩
  | _ :: _, _, i + 1, _, ⟨v, vr, e0, _, h2⟩, e => by subst e0; exact NestsAt.get (i := i) h2 (by simpa using e)
theorem wordsL_app : ∀ (a b : List Nest), wordsL (a ++ b) = wordsL a + wordsL b
  | [], b => by simp [wordsL]
  | n :: a, b => by simp only [List.cons_append, wordsL, wordsL_app a b]; omega
theorem validL_app (k : Bool) : ∀ (a b : List Nest), validL k (a ++ b) = (validL k a && validL k b)
  | [], b => by simp [validL]
  | n :: a, b => by simp only [List.cons_append, validL, validL_app k a b, Bool.and_assoc]
theorem wordsL_rep : ∀ k : Nat, wordsL (List.replicate k .word) = k
  | 0 => rfl
  | k + 1 => by rw [List.replicate_succ]; simp only [wordsL, words, wordsL_rep k]; omega
theorem validL_rep (b : Bool) : ∀ k : Nat, validL b (List.replicate k .word) = true
  | 0 => rfl
  | k + 1 => by rw [List.replicate_succ]; simp only [validL, valid, validL_rep b k, Bool.and_true]
mutual
theorem words_pos {K : PySem.W.Frag} {H : Hp} : ∀ {n : Nest} {v : V}, NestAt K H n v → 1 ≤ words n
  | .word, _, _ => by simp [words]
  | .knot _ ps, _, ⟨_, _, vs, _, _, _, h3, _, h5⟩ => by
    have h6 := wordsL_pos h5
    have h7 := NestsAt.len h5
    simp only [words]
    omega
  | .bad, _, _ => by simp [words]
theorem wordsL_pos {K : PySem.W.Frag} {H : Hp} : ∀ {ns : List Nest} {vs : List V}, NestsAt K H ns vs → ns.length ≤ wordsL ns
  | [], _, _ => by simp [wordsL]
  | _ :: _, _, ⟨_, _, _, h1, h2⟩ => by
    have h3 := words_pos h1
    have h4 := wordsL_pos h2
    simp only [wordsL, List.length_cons]
    omega
end
mutual
theorem size_pos : ∀ (n : Nest), 1 ≤ sizeN n
  | .word => by simp [sizeN]
  | .knot _ _ => by simp [sizeN]
  | .bad => by simp [sizeN]
end
theorem NoKnot.updL {K : PySem.W.Frag} {H : Hp} {p : Addr} {us vs : List V} (e : H p = some (.lst us)) {v : V} (h : NoKnot K H v) : NoKnot K (upd H p (.lst vs)) v := by
  have tup : ∀ {a : Addr} {xs : List V}, H a = some (.tup xs) → (upd H p (.lst vs)) a = some (.tup xs) := fun {a xs} h => by
    rw [upd_ne (ne_of h e (by intro z; cases z))]
    exact h
  have go : ∀ {x : V} {t : Value}, TyOf K H x t → TyOf K (upd H p (.lst vs)) x t := fun {x t} h => by
    have keep : ∀ {a : Addr} {o : HO}, (∀ ys, o ≠ .lst ys) → H a = some o → (upd H p (.lst vs)) a = some o := fun {a o} n h => by
      rw [upd_ne (ne_of h e (n _))]
      exact h
    cases h with
    | non => exact .non
    | bl x => exact .bl x
    | int i => exact .int i
    | str x => exact .str x
    | flt x => exact .flt x
    | @lst a ys h =>
      by_cases hap : a = p
      · subst hap
        exact .lst upd_same
      · exact .lst (by rw [upd_ne hap]; exact h)
    | frz h => exact .frz (keep (fun _ z => nomatch z) h)
    | tup h => exact .tup (keep (fun _ z => nomatch z) h)
    | dK h => exact .dK (keep (fun _ z => nomatch z) h)
    | dT h => exact .dT (keep (fun _ z => nomatch z) h)
    | ins h c a b d f => exact .ins (keep (fun _ z => nomatch z) h) c a b d f
  cases h with
  | ty t k => exact .ty (go t) k
  | len h k => exact .len (tup h) k
  | notStr h t k y => exact .notStr (tup h) (go t) k (let ⟨t', b, t2, kk⟩ := y; ⟨t', b, go t2, kk⟩)
  | kind h a b y => exact .kind (tup h) a b (let ⟨t', b', t2, kk⟩ := y; ⟨t', b', go t2, kk⟩)
  | notTup h t k => exact .notTup (tup h) (go t) k
  | few h1 h2 k => exact .few (tup h1) (tup h2) k
mutual
theorem NestAt.updL {K : PySem.W.Frag} {H : Hp} {p : Addr} {us vs : List V} (e : H p = some (.lst us)) : ∀ {n : Nest} {v : V}, NestAt K H n v → NestAt K (upd H p (.lst vs)) n v
  | .word, _, h => h
  | .knot _ _, _, ⟨a, b, ws, e0, h1, h2, h3, h4, h5⟩ => ⟨a, b, ws, e0, by rw [upd_ne (ne_of h1 e (by intro z; cases z))]; exact h1, by rw [upd_ne (ne_of h2 e (by intro z; cases z))]; exact h2, h3, h4, NestsAt.updL e h5⟩
  | .bad, _, ⟨h1, h2⟩ => ⟨h1, h2.updL e⟩
theorem NestsAt.updL {K : PySem.W.Frag} {H : Hp} {p : Addr} {us vs : List V} (e : H p = some (.lst us)) : ∀ {ns : List Nest} {ws : List V}, NestsAt K H ns ws → NestsAt K (upd H p (.lst vs)) ns ws
  | [], _, h => h
  | _ :: _, _, ⟨v, vr, e0, h1, h2⟩ => ⟨v, vr, e0, NestAt.updL e h1, NestsAt.updL e h2⟩
end
def okN (n : Nest) : Bool := valid none n && decide (words n ≤ 60)
def spKnot (K : PySem.W.Frag) : Sp := fun vs H Q _ => ∃ v, vs = [v] ∧ ((NoKnot K H v ∧ ∀ H', Same H H' → Q (.bl false) H') ∨
  ∃ a b k us, v = .ref a ∧ H a = some (.tup [.str (kS k), .ref b]) ∧ H b = some (.tup us) ∧ 2 ≤ us.length ∧ us.length ≤ 1000 ∧ ∀ H', Same H H' → Q (.bl true) H')
def spIsNest (K : PySem.W.Frag) : Sp := fun vs H Q _ => ∃ v n, vs = [v] ∧ NestAt K H n v ∧ ∀ H', Same H H' → Q (.bl (okN n)) H'
theorem kS_in (k : Bool) : inV (.str (kS k)) [.str "+", .str "-"] = true := by cases k <;> decide +kernel
theorem kS_notIn {z : Str} (h1 : z ≠ "+") (h2 : z ≠ "-") : inV (.str z) [.str "+", .str "-"] = false := by
  unfold inV
  simp only [List.any_cons, List.any_nil, Bool.or_false, eqV, Bool.or_eq_false_iff, beq_eq_false_iff_ne, ne_eq]
  first
  | exact ⟨h1, h2⟩
  | exact ⟨fun e => h1 e.symm, fun e => h2 e.symm⟩
theorem kS_ne (k : Bool) (o : Option Bool) : decide (V.str (kS k) = V.str (aS o)) = decide (o = some k) := by
  cases o with
  | none => cases k <;> decide +kernel
  | some j => cases k <;> cases j <;> decide +kernel
def WaitAt (K : PySem.W.Frag) (H : Hp) : List (Nest × Option Bool) → List Addr → Prop
  | [], ts => ts = []
  | p :: r, ts => ∃ t tr v, ts = t :: tr ∧ H t = some (.tup [v, .str (aS p.2)]) ∧ NestAt K H p.1 v ∧ WaitAt K H r tr
theorem WaitAt.mono {K : PySem.W.Frag} {H H' : Hp} (s : Same H H') : ∀ {st : List (Nest × Option Bool)} {ts : List Addr}, WaitAt K H st ts → WaitAt K H' st ts
  | [], _, h => h
  | _ :: _, _, ⟨t, tr, v, e, h1, h2, h3⟩ => ⟨t, tr, v, e, s _ _ h1, h2.mono s, WaitAt.mono s h3⟩
theorem WaitAt.updL {K : PySem.W.Frag} {H : Hp} {p : Addr} {us vs : List V} (e : H p = some (.lst us)) : ∀ {st : List (Nest × Option Bool)} {ts : List Addr}, WaitAt K H st ts → WaitAt K (upd H p (.lst vs)) st ts
  | [], _, h => h
  | _ :: _, _, ⟨t, tr, v, e0, h1, h2, h3⟩ => ⟨t, tr, v, e0, by rw [upd_ne (ne_of h1 e (by intro z; cases z))]; exact h1, h2.updL e, WaitAt.updL e h3⟩
theorem WaitAt.len {K : PySem.W.Frag} {H : Hp} : ∀ {st : List (Nest × Option Bool)} {ts : List Addr}, WaitAt K H st ts → st.length = ts.length
  | [], _, h => by have h : _ = [] := h; subst h; rfl
  | _ :: _, _, ⟨_, _, _, e, _, _, h3⟩ => by subst e; simp [WaitAt.len h3]
theorem WaitAt.app {K : PySem.W.Frag} {H : Hp} : ∀ {a b : List (Nest × Option Bool)} {ts us : List Addr}, WaitAt K H a ts → WaitAt K H b us → WaitAt K H (a ++ b) (ts ++ us)
  | [], _, _, _, h, h' => by have h : _ = [] := h; subst h; exact h'
  | _ :: _, _, _, _, ⟨t, tr, v, e, h1, h2, h3⟩, h' => by subst e; exact ⟨t, _, v, rfl, h1, h2, WaitAt.app h3 h'⟩
theorem WaitAt.rev {K : PySem.W.Frag} {H : Hp} : ∀ {a : List (Nest × Option Bool)} {ts : List Addr}, WaitAt K H a ts → WaitAt K H a.reverse ts.reverse
  | [], _, h => by have h : _ = [] := h; subst h; rfl
  | _ :: _, _, ⟨t, tr, v, e, h1, h2, h3⟩ => by
    subst e
    rw [List.reverse_cons, List.reverse_cons]
    exact WaitAt.app (WaitAt.rev h3) ⟨t, [], v, rfl, h1, h2, rfl⟩
def waitW (st : List (Nest × Option Bool)) : Nat := (st.map fun p => words p.1).sum
def waitS (st : List (Nest × Option Bool)) : Nat := (st.map fun p => sizeN p.1).sum
def waitOk (st : List (Nest × Option Bool)) : Bool := st.all fun p => valid p.2 p.1
theorem WaitAt.words {K : PySem.W.Frag} {H : Hp} : ∀ {st : List (Nest × Option Bool)} {ts : List Addr}, WaitAt K H st ts → st.length ≤ waitW st
  | [], _, _ => by simp [waitW]
  | p :: r, _, ⟨_, _, _, _, _, h2, h3⟩ => by
    have a1 := words_pos h2
    have a2 := WaitAt.words h3
    unfold waitW at *
    simp only [List.map_cons, List.sum_cons, List.length_cons]
    omega
def within (k : Bool) (ps : List Nest) : List (Nest × Option Bool) := ps.map fun n => (n, some k)
theorem within_w (k : Bool) : ∀ ps, waitW (within k ps) = wordsL ps
  | [] => rfl
  | n :: r => by
    have := within_w k r
    unfold waitW within at *
    simp only [List.map_cons, List.sum_cons, wordsL]
    omega
theorem within_s (k : Bool) : ∀ ps, waitS (within k ps) = sizeL ps
  | [] => rfl
  | n :: r => by
    have := within_s k r
    unfold waitS within at *
    simp only [List.map_cons, List.sum_cons, sizeL]
    omega
theorem within_ok (k : Bool) : ∀ ps, waitOk (within k ps) = validL k ps
  | [] => rfl
  | n :: r => by
    have := within_ok k r
    unfold waitOk within at *
    simp only [List.map_cons, List.all_cons, validL, this]
theorem waitW_app (a b : List (Nest × Option Bool)) : waitW (a ++ b) = waitW a + waitW b := by simp [waitW]
theorem waitS_app (a b : List (Nest × Option Bool)) : waitS (a ++ b) = waitS a + waitS b := by simp [waitS]
theorem waitOk_app (a b : List (Nest × Option Bool)) : waitOk (a ++ b) = (waitOk a && waitOk b) := by simp [waitOk]
theorem waitW_rev (a : List (Nest × Option Bool)) : waitW a.reverse = waitW a := by simp [waitW]
theorem waitS_rev (a : List (Nest × Option Bool)) : waitS a.reverse = waitS a := by simp [waitS]
theorem waitOk_rev (a : List (Nest × Option Bool)) : waitOk a.reverse = waitOk a := by simp [waitOk]
end Tn
namespace Tn
open PySem L2
structure Ent where
  e : Addr
  p : Addr
  k : Bool
  ns : List Nest
  vs : List V
def EntAt (K : PySem.W.Frag) (H : Hp) (x : Ent) : Prop := H x.e = some (.lst [.str (kS x.k), .ref x.p]) ∧ H x.p = some (.lst x.vs) ∧ NestsAt K H x.ns x.vs
def addrs : List Ent → List Addr
  | [] => []
  | x :: r => x.e :: x.p :: addrs r
def refsE (st : List Ent) : List V := st.reverse.map fun x => V.ref x.e
theorem refsE_cons (x : Ent) (r : List Ent) : refsE (x :: r) = refsE r ++ [V.ref x.e] := by simp [refsE]
theorem refsE_len (st : List Ent) : (refsE st).length = st.length := by simp [refsE]
structure PileAt (K : PySem.W.Frag) (B H : Hp) (pl : Addr) (st : List Ent) : Prop where
  here : H pl = some (.lst (refsE st))
  ents : ∀ x ∈ st, EntAt K H x
  nd : (pl :: addrs st).Nodup
  fresh : ∀ a ∈ pl :: addrs st, B a = none
  same : Same B H
theorem EntAt.mono {K : PySem.W.Frag} {H H' : Hp} (s : Same H H') {x : Ent} (h : EntAt K H x) : EntAt K H' x := ⟨s _ _ h.1, s _ _ h.2.1, NestsAt.mono s h.2.2⟩
theorem addrs_mem {x : Ent} : ∀ {st : List Ent}, x ∈ st → x.e ∈ addrs st ∧ x.p ∈ addrs st
  | y :: r, h => by
    rcases List.mem_cons.mp h with rfl | h
    · simp [addrs]
    · have := addrs_mem h
      simp [addrs, this]
theorem addrs_there {K : PySem.W.Frag} {H : Hp} {a : Addr} : ∀ {st : List Ent}, (∀ x ∈ st, EntAt K H x) → a ∈ addrs st → ∃ o, H a = some o
  | x :: r, h, ha => by
    have hx := h x List.mem_cons_self
    simp only [addrs, List.mem_cons] at ha
    rcases ha with rfl | rfl | ha
    · exact ⟨_, hx.1⟩
    · exact ⟨_, hx.2.1⟩
    · exact addrs_there (fun y hy => h y (List.mem_cons_of_mem _ hy)) ha
theorem PileAt.mono {K : PySem.W.Frag} {B H H' : Hp} {pl : Addr} {st : List Ent} (h : PileAt K B H pl st) (s : Same H H') : PileAt K B H' pl st :=
  ⟨s _ _ h.here, fun x hx => (h.ents x hx).mono s, h.nd, h.fresh, h.same.trans s⟩
theorem EntAt.updL {K : PySem.W.Frag} {H : Hp} {q : Addr} {us vs : List V} {x : Ent} (h : EntAt K H x) (e : H q = some (.lst us)) (h1 : x.e ≠ q) (h2 : x.p ≠ q) : EntAt K (upd H q (.lst vs)) x :=
  ⟨by rw [upd_ne h1]; exact h.1, by rw [upd_ne h2]; exact h.2.1, NestsAt.updL e h.2.2⟩
theorem PileAt.add {K : PySem.W.Frag} {B H : Hp} {pl : Addr} {x : Ent} {r : List Ent} (h : PileAt K B H pl (x :: r)) {n : Nest} {v : V} (hn : NestAt K H n v) :
    PileAt K B (upd H x.p (.lst (x.vs ++ [v]))) pl ({ x with ns := x.ns ++ [n], vs := x.vs ++ [v] } :: r) := by
  have hx := h.ents x List.mem_cons_self
  have nd := h.nd
  simp only [addrs, List.nodup_cons, List.mem_cons, not_or] at nd
  obtain ⟨⟨n1, n2, n3⟩, ⟨n4, n5⟩, n6, n7⟩ := nd
  refine ⟨?_, ?_, ?_, ?_, ?_⟩
  · rw [upd_ne n2, h.here, refsE_cons, refsE_cons]
  · intro y hy
    rcases List.mem_cons.mp hy with rfl | hy
    · refine ⟨by rw [upd_ne n4]; exact hx.1, upd_same, ?_⟩
      exact NestsAt.app (NestsAt.updL hx.2.1 hx.2.2) (NestsAt.one (NestAt.updL hx.2.1 hn))
    · obtain ⟨a1, a2⟩ := addrs_mem hy
      exact (h.ents y (List.mem_cons_of_mem _ hy)).updL hx.2.1 (fun z => n6 (z ▸ a1)) (fun z => n6 (z ▸ a2))
  · have := h.nd
    simpa [addrs] using this
  · have := h.fresh
    simpa [addrs] using this
  · intro b o e
    rw [upd_ne (ne_of_none e (h.fresh x.p (by simp [addrs])))]
    exact h.same b o e
theorem PileAt.pop {K : PySem.W.Frag} {B H : Hp} {pl : Addr} {x : Ent} {r : List Ent} (h : PileAt K B H pl (x :: r)) :
    PileAt K B (upd H pl (.lst (refsE r))) pl r ∧ EntAt K (upd H pl (.lst (refsE r))) x := by
  have hx := h.ents x List.mem_cons_self
  have nd := h.nd
  simp only [addrs, List.nodup_cons, List.mem_cons, not_or] at nd
  obtain ⟨⟨n1, n2, n3⟩, ⟨n4, n5⟩, n6, n7⟩ := nd
  refine ⟨⟨upd_same, fun y hy => ?_, List.nodup_cons.mpr ⟨n3, n7⟩, fun a ha => h.fresh a ?_, fun b o e => ?_⟩, hx.updL h.here (fun z => n1 z.symm) (fun z => n2 z.symm)⟩
  · obtain ⟨a1, a2⟩ := addrs_mem hy
    exact (h.ents y (List.mem_cons_of_mem _ hy)).updL h.here (fun z => n3 (z ▸ a1)) (fun z => n3 (z ▸ a2))
  · rcases List.mem_cons.mp ha with rfl | ha
    · exact List.mem_cons_self
    · simp [addrs, ha]
  · rw [upd_ne (ne_of_none e (h.fresh pl List.mem_cons_self))]
    exact h.same b o e
theorem PileAt.push {K : PySem.W.Frag} {B H : Hp} {pl : Addr} {st : List Ent} (h : PileAt K B H pl st) {e p : Addr} {k : Bool} (hp : H p = none) (he : (upd H p (.lst [])) e = none) :
    PileAt K B (upd (upd (upd H p (.lst [])) e (.lst [.str (kS k), .ref p])) pl (.lst (refsE st ++ [.ref e]))) pl (⟨e, p, k, [], []⟩ :: st) := by
  have sp : Same H (upd H p (.lst [])) := same_upd hp
  have se : Same (upd H p (.lst [])) (upd (upd H p (.lst [])) e (.lst [.str (kS k), .ref p])) := same_upd he
  have he0 : H e = none := sp.free he
  have nep : e ≠ p := fun z => by rw [z, upd_same] at he; cases he
  have npl1 : pl ≠ p := ne_of_none h.here hp
  have npl2 : pl ≠ e := ne_of_none h.here he0
  have nin : ∀ {a : Addr}, H a = none → a ∉ addrs st := fun ha z => by
    obtain ⟨o, eo⟩ := addrs_there h.ents z
    rw [ha] at eo
    cases eo
  have h2 := h.mono (sp.trans se)
  have nd := List.nodup_cons.mp h.nd
  refine ⟨by rw [upd_same, refsE_cons], fun y hy => ?_, ?_, ?_, fun b o eb => ?_⟩
  · rcases List.mem_cons.mp hy with rfl | hy
    · refine ⟨by show upd _ _ _ e = _; rw [upd_ne (fun z => npl2 z.symm)]; exact upd_same, ?_, rfl⟩
      show upd _ _ _ p = _
      rw [upd_ne (fun z => npl1 z.symm)]
      exact se _ _ upd_same
    · obtain ⟨a1, a2⟩ := addrs_mem hy
      exact (h2.ents y hy).updL h2.here (fun z => nd.1 (z ▸ a1)) (fun z => nd.1 (z ▸ a2))
  · simp only [addrs, List.nodup_cons, List.mem_cons, not_or]
    exact ⟨⟨npl2, npl1, nd.1⟩, ⟨nep, nin he0⟩, nin hp, nd.2⟩
  · intro a ha
    simp only [addrs, List.mem_cons] at ha
    rcases ha with rfl | rfl | rfl | ha
    · exact h.fresh _ List.mem_cons_self
    · exact h.same.free he0
    · exact h.same.free hp
    · exact h.fresh a (List.mem_cons_of_mem _ ha)
  · rw [upd_ne (ne_of_none eb (h.fresh pl List.mem_cons_self))]
    exact h2.same b o eb
theorem PileAt.start {K : PySem.W.Frag} {B : Hp} {e p pl : Addr} {k : Bool} (hp : B p = none) (he : (upd B p (.lst [])) e = none) (hl : (upd (upd B p (.lst [])) e (.lst [.str (kS k), .ref p])) pl = none) :
    PileAt K B (upd (upd (upd B p (.lst [])) e (.lst [.str (kS k), .ref p])) pl (.lst [.ref e])) pl [⟨e, p, k, [], []⟩] := by
  have sp : Same B (upd B p (.lst [])) := same_upd hp
  have se : Same (upd B p (.lst [])) (upd (upd B p (.lst [])) e (.lst [.str (kS k), .ref p])) := same_upd he
  have he0 : B e = none := sp.free he
  have hl0 : B pl = none := sp.free (se.free hl)
  have nep : e ≠ p := fun z => by rw [z, upd_same] at he; cases he
  have npl2 : e ≠ pl := ne_of_none upd_same hl
  have npl1 : p ≠ pl := ne_of_none (se _ _ upd_same) hl
  refine ⟨upd_same, fun y hy => ?_, ?_, ?_, (sp.trans se).trans (same_upd hl)⟩
  · cases List.mem_singleton.mp hy
    refine ⟨by show upd _ _ _ e = _; rw [upd_ne npl2]; exact upd_same, ?_, rfl⟩
    show upd _ _ _ p = _
    rw [upd_ne npl1]
    exact se _ _ upd_same
  · simp only [addrs, List.nodup_cons, List.mem_cons, List.not_mem_nil, not_or, not_false_iff, and_true, List.nodup_nil]
    exact ⟨⟨fun z => npl2 z.symm, fun z => npl1 z.symm⟩, nep⟩
  · intro a ha
    simp only [addrs, List.mem_cons, List.not_mem_nil, or_false] at ha
    rcases ha with rfl | rfl | rfl
    · exact hl0
    · exact he0
    · exact hp
def lackT (st : List Ent) : Nat := (st.map fun x => 1 - x.vs.length).sum
def lackR : List Ent → Nat
  | [] => 0
  | x :: r => (2 - x.vs.length) + lackT r
def KindsR (kind : Bool) : List Ent → Prop
  | [] => False
  | [x] => x.k = kind
  | x :: y :: r => x.k = !y.k ∧ KindsR kind (y :: r)
def pileW (st : List Ent) : Nat := (st.map fun x => wordsL x.ns).sum
theorem pileW_cons (x : Ent) (r : List Ent) : pileW (x :: r) = wordsL x.ns + pileW r := by simp [pileW]
theorem lackT_cons (x : Ent) (r : List Ent) : lackT (x :: r) = (1 - x.vs.length) + lackT r := by simp [lackT]
def spMore (K : PySem.W.Frag) : Sp := fun vs H Q _ => ∃ (l : Addr) (ns : List Int), vs = [.ref l] ∧ SqL K H l (ns.map V.int) ∧ ns.length ≤ 63 ∧
  ∀ (f : Addr) (ms : List Int) (H' : Hp), H f = none → H' f = some (.lst (ms.map V.int)) → Same H H' → ms.length = 3 * ns.length → Q (.ref f) H'
def spLack (K : PySem.W.Frag) : Sp := fun vs H Q _ => ∃ (pl : Addr) (x : Ent) (r : List Ent), vs = [.ref pl] ∧ H pl = some (.lst (refsE (x :: r))) ∧ (∀ y ∈ x :: r, EntAt K H y) ∧ r.length ≤ 900 ∧
  ∀ H', Same H H' → Q (.int (lackR (x :: r) : Nat)) H'
def spNest (K : PySem.W.Frag) : Sp := fun vs H Q _ => ∃ (l : Addr) (cs : List Int) (k : Bool) (most : Nat), vs = [.ref l, .str (kS k), .int (most : Int)] ∧ SqL K H l (cs.map V.int) ∧ cs.length ≤ 200 ∧
  ∀ (n : Nest) (v : V) (H' : Hp), NestAt K H' n v → valid none n = true → (words n ≤ most ∨ words n = 1) → Same H H' → Q v H'
theorem dec_and {a b : TT} {σ : L2.St} {H : Hp} {A B : Bool} (ha : ∀ Q : Bool → Hp → Prop, Q A H → a σ H Q) (hb : ∀ Q : Bool → Hp → Prop, Q B H → b σ H Q) : ∀ Q : Bool → Hp → Prop, Q (A && B) H → tAnd a b σ H Q := fun Q h => by
  refine ha _ ?_
  cases A with
  | true => exact hb Q h
  | false => exact h
theorem dec_or {a b : TT} {σ : L2.St} {H : Hp} {A B : Bool} (ha : ∀ Q : Bool → Hp → Prop, Q A H → a σ H Q) (hb : ∀ Q : Bool → Hp → Prop, Q B H → b σ H Q) : ∀ Q : Bool → Hp → Prop, Q (A || B) H → tOr a b σ H Q := fun Q h => by
  refine ha _ ?_
  cases A with
  | true => exact h
  | false => exact hb Q h
theorem pick_kind (k : Bool) : ∃ c, atI (Str.ofString "+-").cps.toList (if decide (V.str (kS k) = V.str "+") = true then 1 else 0) = some c ∧ (⟨#[c]⟩ : Str) = kS (!k) := by
  cases k with
  | true => exact ⟨45, by decide +kernel, by decide +kernel⟩
  | false => exact ⟨43, by decide +kernel, by decide +kernel⟩
theorem kinds_top {k : Bool} {y y' : Ent} {r : List Ent} (e : y'.k = y.k) (h : KindsR k (y :: r)) : KindsR k (y' :: r) := by
  cases r with
  | nil => exact e.trans h
  | cons z r => exact ⟨e.trans h.1, h.2⟩
theorem rep_non (k : Int) : (List.replicate k.toNat [V.non]).flatten = List.replicate k.toNat V.non := by
  induction k.toNat with
  | zero => rfl
  | succ n ih => rw [List.replicate_succ, List.flatten_cons, ih]; rfl
theorem valid_knot {k j : Bool} {ps : List Nest} (hk : k = !j) (h : validL k ps = true) : valid (some j) (.knot k ps) = true := by
  subst hk
  cases j
  · have h : validL true ps = true := h
    simp [valid, h]
  · have h : validL false ps = true := h
    simp [valid, h]
end Tn
namespace L2
open PySem PySem.Spec PyProof.Rows
section
variable {X : Cx}
end
end L2
namespace Tn
open PySem L2
mutual
theorem depth_words {K : PySem.W.Frag} {H : Hp} : ∀ {n : Nest} {v : V}, NestAt K H n v → depthN n + 1 ≤ words n
  | .word, _, _ => by simp [words, depthN]
  | .knot _ ps, _, ⟨_, _, vs, _, _, _, h3, _, h5⟩ => by
    have h6 := depthL_words h5
    have h7 := NestsAt.len h5
    simp only [words, depthN]
    omega
  | .bad, _, _ => by simp [words, depthN]
theorem depthL_words {K : PySem.W.Frag} {H : Hp} : ∀ {ns : List Nest} {vs : List V}, NestsAt K H ns vs → depthL ns + ns.length ≤ wordsL ns
  | [], _, _ => by simp [wordsL, depthL]
  | n :: r, _, ⟨_, _, _, h1, h2⟩ => by
    have h3 := depth_words h1
    have h4 := depthL_words h2
    have h5 := wordsL_pos h2
    have h6 := words_pos h1
    simp only [wordsL, depthL, List.length_cons]
    have : Nat.max (depthN n) (depthL r) ≤ depthN n ∨ Nat.max (depthN n) (depthL r) ≤ depthL r := by
      rcases Nat.le_total (depthN n) (depthL r) with h | h
      · right; exact Nat.max_le.mpr ⟨h, Nat.le_refl _⟩
      · left; exact Nat.max_le.mpr ⟨Nat.le_refl _, h⟩
    omega
end
def spMust (K : PySem.W.Frag) (C : Addr) : Sp := fun vs H Q E => ∃ v n, vs = [v] ∧ NestAt K H n v ∧ (okN n = true → ∀ H', Same H H' → Q .non H') ∧ (okN n = false → ∀ H', Same H H' → E (.ref C) none H')
def spAsk (K : PySem.W.Frag) (C : Addr) (g : Nest → Nat) : Sp := fun vs H Q E => ∃ v n, vs = [v] ∧ NestAt K H n v ∧ (okN n = true → ∀ H', Same H H' → Q (.int (g n : Nat)) H') ∧ (okN n = false → ∀ H', Same H H' → E (.ref C) none H')
def spCount (K : PySem.W.Frag) (g : Nest → Nat) (d : Nat) : Sp := fun vs H Q _ => ∃ v n o, vs = [v] ∧ NestAt K H n v ∧ valid o n = true ∧ depthN n < d ∧ ∀ H', Same H H' → Q (.int (g n : Nat)) H'
theorem okN_valid {n : Nest} (h : okN n = true) : valid none n = true ∧ words n ≤ 60 := by
  unfold okN at h
  obtain ⟨a, b⟩ := Bool.and_eq_true_iff.mp h
  exact ⟨a, of_decide_eq_true b⟩
theorem validL_get {k : Bool} : ∀ {ps : List Nest} {i : Nat} {n : Nest}, validL k ps = true → ps[i]? = some n → valid (some k) n = true
  | [], _, _, _, h => nomatch h
  | m :: r, 0, _, hv, h => by cases h; simp only [validL, Bool.and_eq_true] at hv; exact hv.1
  | m :: r, i + 1, _, hv, h => by simp only [validL, Bool.and_eq_true] at hv; exact validL_get (i := i) hv.2 (by simpa using h)
theorem depthL_get : ∀ {ps : List Nest} {i : Nat} {n : Nest}, ps[i]? = some n → depthN n ≤ depthL ps
  | [], _, _, h => nomatch h
  | m :: r, 0, _, h => by cases h; simp only [depthL]; exact Nat.le_max_left _ _
  | m :: r, i + 1, _, h => by simp only [depthL]; exact Nat.le_trans (depthL_get (i := i) (by simpa using h)) (Nat.le_max_right _ _)
end Tn
namespace Tn
open L2 PySem PySem.W PySem.Calls PyProof.Rows PySem.Spec
theorem try_call {X : Cx} {k : Nat} {f C : Addr} {fd : FuncData} {ps : List Str} {sp : Sp} {x cx n : Str} {p cpos epos tp hpos : Pos} {e : Expr} {es : List Expr} {t : TA} {b0 : Stmt} {suite : List Stmt} {tH : Addr → TS} {i : Nat}
    (F : FnOk X.prog X.w X.K X.mg X.base (CXV X.prog X.w) k f fd ps sp) (hr : Room k X.A) (hg : Gl X x) (hm : X.mg x = some (.ref f)) (hk : keepIn X.K (.ref f) = true) (hb : Binds X.K fd ps [])
    (hstk : X.stack = X.env :: X.outer) (hfr : X.env.frame = some X.env.locals) (hgC : Gl X cx) (hmC : X.mg cx = some (.ref C)) (T : CatTxt X.K C) (hN : X.N.Nodup) (hi : X.N[i]? = some n) (hkn : X.env.kindOf n = some .local)
    (ha : PA X.nox (e :: es) t) (hs : ∀ y, PSs (caught X y) (b0 :: suite) (tH y))
    (hdb : (x == ("__debug__" : Str)) = false := by decide) (hdC : (cx == ("__debug__" : Str)) = false := by decide) (he : starEach (e :: es) X.env = (false, eval e X.env) :: starEach es X.env := by rfl) (hpl : (backTo cpos (starEach es X.env)).any (·.1) = false := by rfl)
    (hsw : swapsWith (.Call (.Name x p) (e :: es) [] cpos) none epos.line X.env = pure false := by rfl)
    {pins : List (Addr × Obj)} {s : Shared} {σ : L2.St} {H : Hp} {D : Ends} (I : Inv X pins σ H s) (h : sTry X.K C sp t i tH D σ H) {Fn : Flow → Shared → Prop} (hFn : ∀ s' H2, Inv X pins σ H2 s' → D.nx σ H2 → Fn .next s') :
    wpAny (model X.prog X.w) X.A (execs [.Expr (.Call (.Name x p) (e :: es) [] cpos) epos] X.env) Fn (fun e s₁ => wpAny (model X.prog X.w) X.A (noteFrame e X.env) (fun _ s₂ => wpAny (model X.prog X.w) X.A (setFlight e none) (fun _ s₃ => wpAny (model X.prog X.w) X.A (handleBy e X.env [.ExceptHandler (some (.Name cx tp)) (some n) (b0 :: suite) hpos]) (SP X pins D) X.xe s₃) X.xe s₂) X.xe s₁) s := by
  refine wpAny_execs_cons ?_
  refine wpAny_Expr_any ?_ I.quiet hsw
  refine wpAny_Call_Name_kw (ld_glob I hg hm ?_ hdb)
  refine callWith_K (h₀ := X.base) I.ok.mod.kin hk (wpAny_mono (ha cpos pins s σ H _ (I.wish _) h) (fun us s1 z => ?_) fun _ _ z => False.elim z) he hpl
  obtain ⟨vs, H1, I1', r, q⟩ := z
  have I1 : Inv X pins σ H1 s1 := I1'.unwish
  refine ⟨I1.kIn, ?_⟩
  have hl : us.length = ps.length := by rw [← r.length]; exact F.len _ _ _ _ q
  have hbd := hb s1 us I1.kIn (by simpa using hl)
  rw [List.append_nil] at hbd
  refine wpAny_call (codeAny_mono (F.run X.A X.stack s1 H1 ⟨us, []⟩ us vs _ _ hr I1.env0 hbd r q) fun rr s' hq => ?_)
  cases rr with
  | ok fl =>
    cases fl with
    | ret u =>
      obtain ⟨v, H2, I2, _, q2⟩ := I1.after hq
      exact wpAny_execs_nil (hFn _ _ I2 q2)
    | next => exact False.elim hq
    | brk => exact False.elim hq
    | cont => exact False.elim hq
  | error e =>
    obtain ⟨y, cls, a0, B, H', rfl, os, bare, un, hok, fl, c, hn, Dd, rfl, TD, hmr, hH⟩ := hq
    have nw : s1.heap.get? y = none := fly_new fl c
    have hfr0 := I1.ok.frames
    rw [hstk] at fl hfr0 un c
    refine wpAny_looks_onW (base := B) hfr0 hfr fl fun h1 hd1 sl1 => ?_
    obtain ⟨un1, hok1⟩ := lie_step un hok c (fly_frames fl) fl.1 hd1.1 sl1
    refine wpAny_landsW hd1 fun h2 fl2 sl2 => ?_
    obtain ⟨un2, hok2⟩ := lie_step un1 hok1 c (fun b hb => (hd1.2.2.1.mem hb).2) hd1.1 fl2.1 sl2
    have ex2 : ExAt h2 y Dd := let ⟨ob, e1, e2⟩ := fl2.there; ⟨ob, e1, e2⟩
    have I2 : Inv X pins σ H' { s' with heap := h2 } := I1.call' (s' := { s' with heap := h2 }) (ch := []) os (by rw [hstk]; exact un2) hok2 bare (fun b z => absurd z (by simp))
    refine wpAny_handleBy_cons (codeAny_handlers_test ?_) (by intro z; cases z)
    refine ld_glob (X := caught X y) (to_caught I2 y) hgC hmC ?_ hdC
    refine exc_match (K := X.K) (D := Dd) I2.kIn TD ex2 T.cls T.ty T.be hmr ?_
    refine codeAny_handlers_suite_as ?_
    refine lands_againW fl2 fun h3 fl3 sl3 => ?_
    obtain ⟨un3, hok3⟩ := lie_step un2 hok2 c (fly_frames fl2) fl2.1 fl3.1 sl3
    have ex3 : ExAt h3 y Dd := let ⟨ob, e1, e2⟩ := fl3.there; ⟨ob, e1, e2⟩
    have I3 : Inv X pins σ (upd H' y (exO y Dd)) { s' with heap := h3 } := I1.call' (s' := { s' with heap := h3 }) (ch := []) os (by rw [hstk]; exact un_ext un3 nw hn) (hok_ext hok3 hn ex3) bare (fun b z => absurd z (by simp))
    refine store_ok (X := caught X y) (to_caught I3 y) hN hi (.inl hkn) (v := .ref y) rfl (fun s4 I4 => ?_) (.inr hkn)
    refine wpAny_mono (hs y pins s4 _ _ _ I4 (hH y hn)) (fun f s5 z => ?_) fun _ _ z => False.elim z
    cases f with
    | next =>
      obtain ⟨σ5, H5, I5, q5⟩ := z
      exact name_gone (of_caught I.ok I5) hN hi hkn fun s6 I6 => ⟨_, H5, I6, q5⟩
    | ret u => obtain ⟨_, _, _, _, _, q5⟩ := z; exact False.elim q5
    | brk => obtain ⟨_, _, _, q5⟩ := z; exact False.elim q5
    | cont => obtain ⟨_, _, _, q5⟩ := z; exact False.elim q5
def sTryIf (K : Frag) (C : Addr) (tc : TT) (sp sp' : Sp) (t t' : TA) (i : Nat) (tH : Addr → TS) : TS := fun D σ H => tc σ H fun b H1 => if b = true then sTry K C sp t i tH D σ H1 else sTry K C sp' t' i tH D σ H1
theorem ps_tryIf {X : Cx} {k k' : Nat} {f f' C : Addr} {fd fd' : FuncData} {ps ps' : List Str} {sp sp' : Sp} {x x' cx n : Str} {p cpos epos p' cpos' epos' tp hpos tpos ipos : Pos} {e e' c : Expr} {es es' : List Expr} {t t' : TA} {tc : TT} {b0 : Stmt} {suite : List Stmt} {tH : Addr → TS} {i : Nat}
    (hc : PT X.nox c tc)
    (F : FnOk X.prog X.w X.K X.mg X.base (CXV X.prog X.w) k f fd ps sp) (hr : Room k X.A) (hg : Gl X x) (hm : X.mg x = some (.ref f)) (hk : keepIn X.K (.ref f) = true) (hb : Binds X.K fd ps [])
    (F' : FnOk X.prog X.w X.K X.mg X.base (CXV X.prog X.w) k' f' fd' ps' sp') (hr' : Room k' X.A) (hg' : Gl X x') (hm' : X.mg x' = some (.ref f')) (hk' : keepIn X.K (.ref f') = true) (hb' : Binds X.K fd' ps' [])
    (hstk : X.stack = X.env :: X.outer) (hfr : X.env.frame = some X.env.locals) (hgC : Gl X cx) (hmC : X.mg cx = some (.ref C)) (T : CatTxt X.K C) (hN : X.N.Nodup) (hi : X.N[i]? = some n) (hkn : X.env.kindOf n = some .local)
    (ha : PA X.nox (e :: es) t) (ha' : PA X.nox (e' :: es') t') (hs : ∀ y, PSs (caught X y) (b0 :: suite) (tH y))
    (hdb : (x == ("__debug__" : Str)) = false := by decide) (hdC : (cx == ("__debug__" : Str)) = false := by decide) (he : starEach (e :: es) X.env = (false, eval e X.env) :: starEach es X.env := by rfl) (hpl : (backTo cpos (starEach es X.env)).any (·.1) = false := by rfl)
    (hsw : swapsWith (.Call (.Name x p) (e :: es) [] cpos) none epos.line X.env = pure false := by rfl)
    (hdb' : (x' == ("__debug__" : Str)) = false := by decide) (he' : starEach (e' :: es') X.env = (false, eval e' X.env) :: starEach es' X.env := by rfl) (hpl' : (backTo cpos' (starEach es' X.env)).any (·.1) = false := by rfl)
    (hsw' : swapsWith (.Call (.Name x' p') (e' :: es') [] cpos') none epos'.line X.env = pure false := by rfl) :
    PS X (.Try [.If c [.Expr (.Call (.Name x p) (e :: es) [] cpos) epos] [.Expr (.Call (.Name x' p') (e' :: es') [] cpos') epos'] ipos] [.ExceptHandler (some (.Name cx tp)) (some n) (b0 :: suite) hpos] [] [] tpos) (sTryIf X.K C tc sp sp' t t' i tH) := by
  intro pins s σ H D I h
  refine wpAny_Try_except (wpAny_execs_cons (wpAny_If (wpAny_mono (hc pins s σ H _ (I.wish _) h) (fun d s1 z => ?_) fun _ _ z => False.elim z)))
  obtain ⟨H1, I1', q1⟩ := z
  have I1 : Inv X pins σ H1 s1 := I1'.unwish
  cases d with
  | true => exact try_call F hr hg hm hk hb hstk hfr hgC hmC T hN hi hkn ha hs hdb hdC he hpl hsw I1 q1 fun s' H2 I2 q2 => wpAny_execs_nil (wpAny_execs_nil ⟨σ, H2, I2, q2⟩)
  | false => exact try_call F' hr' hg' hm' hk' hb' hstk hfr hgC hmC T hN hi hkn ha' hs hdb' hdC he' hpl' hsw' I1 q1 fun s' H2 I2 q2 => wpAny_execs_nil (wpAny_execs_nil ⟨σ, H2, I2, q2⟩)
end Tn
namespace L2
open PySem PySem.Spec PyProof PyProof.Rows
theorem rep_tuple : seqRepeat? (Value.type "tuple") = pure (some (Value.builtin "tuple.__mul__")) := by
  have h1 : seqSlot? (Value.type "tuple") (Str.ofString "__mul__") = pure (some (Value.builtin "tuple.__mul__")) := PySem.seqSlot_of F.slot_tuple_mul.lookup (by decide +kernel)
  have h2 : seqSlot? (Value.type "tuple") (Str.ofString "__rmul__") = pure (some (Value.builtin "tuple.__rmul__")) := PySem.seqSlot_of F.slot_tuple_rmul.lookup (by decide +kernel)
  unfold seqRepeat?
  rw [h1, h2]
  rfl
theorem noFill_tuple_mul : fillsNumberSlot (Value.type "tuple") "mul" = pure false := PySem.fillsNumberSlot_seq F.slot_tuple_mul.lookup (by decide +kernel) F.slot_tuple_rmul.lookup (by decide +kernel)
theorem int_rmul_tuple (a : Int) (t : Tok) (l : Addr) (items : Array Value) (n : Nat) (dd : Option Addr) (sl : Array (Option Value)) :
    Meets (Builtin.«int.__rmul__» { pos := [Value.int a t, Value.ref l] }) fun x R s => s.heap.get? l = some { cls := Value.type "tuple", dict := dd, data := Data.seq items n, slots := sl } ∧ R (Except.ok (Flow.ret Value.notImplemented)) s := by
  refine Meets.of_wp fun prog w A R s h => ?_
  obtain ⟨hl, h⟩ := h
  wp_walk using wpAny_load' hl
  exact ⟨_, rfl, h⟩
theorem fold_one (v : Value) (m : Nat) : List.foldl (fun x1 x2 => x1 ++ x2) #[] (List.replicate m #[v]) = (List.replicate m v).toArray := by
  have gen : ∀ (m : Nat) (acc : Array Value), List.foldl (fun x1 x2 => x1 ++ x2) acc (List.replicate m #[v]) = acc ++ (List.replicate m v).toArray := by
    intro m
    induction m with
    | zero => intro acc; simp
    | succ m ih =>
      intro acc
      rw [List.replicate_succ, List.foldl_cons, ih, List.replicate_succ]
      apply Array.toList_inj.mp
      simp only [Array.toList_append, List.append_assoc]
      rfl
  rw [gen]
  simp
theorem tuple_mul_one (l : Addr) (v : Value) (n : Nat) (dd : Option Addr) (sl : Array (Option Value)) (k : Int) (u : Tok) (hk : 1 < k) (hk2 : k < 1000000) :
    Meets (Builtin.«tuple.__mul__» { pos := [Value.ref l, Value.int k u] }) fun x R s => s.heap.get? l = some { cls := Value.type "tuple", dict := dd, data := Data.seq #[v] n, slots := sl } ∧
      R (Except.ok (Flow.ret (.ref s.heap.objs.size))) { s with heap := s.heap.push { cls := .type "tuple", data := .seq (List.replicate k.toNat v).toArray } } := by
  refine Meets.of_wp fun prog w A R s h => ?_
  obtain ⟨hl, h⟩ := h
  wp_walk using wpAny_load' hl
  have c1 : ¬ ((decide (k < -2 ^ 63) || decide (k ≥ 2 ^ 63)) = true) := by simp; omega
  rw [if_neg c1]
  wp_walk using wpAny_load' hl
  have hline : 1000000 ≤ sizeLine := by rw [sizeLine_eq]; omega
  have c2 : ¬ (((#[v] : Array Value).isEmpty || k == 1) = true) := by simp; omega
  rw [if_neg c2]
  have c3 : ¬ ((decide (k ≤ 0) || (#[v] : Array Value).isEmpty) = true) := by simp; omega
  have c4 : ¬ (((#[v] : Array Value).size : Int) * k > (2 ^ 63 - 1) / 8) := by simp; omega
  have c5 : ¬ (Builtin.Tuple.tupleTooMany (((#[v] : Array Value).size : Int) * k) = true) := by
    unfold Builtin.Tuple.tupleTooMany
    simp
    omega
  rw [if_neg c3, if_neg c4, if_neg c5]
  unfold Builtin.Tuple.tupleExact
  show wpAny _ _ (newObj (Value.type "tuple") (Data.seq (List.foldl (fun x1 x2 => x1 ++ x2) #[] (List.replicate k.toNat #[v]))) >>= fun v => ret v) _ _ _
  rw [fold_one]
  refine wpAny_bind (wpAny_newObj_type ?_ (by show (List.replicate k.toNat v).toArray.size ≤ sizeLine; simp; omega))
  exact wpAny_pure ⟨_, rfl, h⟩
theorem cat_tup0 {prog : Program} {w : World} {A : Around} {E : Value → Shared → Prop} {s : Shared} {t b : Addr} {ws : List Value} {Q : Value → Shared → Prop} (ht : IsTup s.heap t ([] : List Value).toArray) (hb : IsTup s.heap b ws.toArray) (h : Q (.ref b) s) :
    wpAny (model prog w) A (binaryOp .Add (.ref t) (.ref b)) Q E s := by
  obtain ⟨⟨cls, dd, data, sl⟩, ho, hc, n, hd⟩ := ht
  obtain ⟨⟨cls2, dd2, data2, sl2⟩, ho2, hc2, n2, hd2⟩ := hb
  cases hc
  cases hd
  cases hc2
  cases hd2
  exact concat_meets ⟨_, ho, rfl⟩ ⟨_, ho2, rfl⟩ noFill_tuple_add seq_tuple_add F.slot_tuple_add F.entry_tuple_add (F.args_tuple_add_2 _ _) (tuple_addW0 t b _ _ n n2 dd dd2 sl sl2 (by simp)) ⟨ho, ho2, h⟩
section
variable {X : Cx}
def rRepT (K : PySem.W.Frag) : R2 := fun x y H Q => ∃ a k z, x = .ref a ∧ y = .int k ∧ SqT K H a [z] ∧ 1 < k ∧ k < 1000000 ∧ ∀ p, H p = none → Q (.ref p) (upd H p (.tup (List.replicate k.toNat z)))
theorem vals_repl {z : V} {v : Value} (r : RelV z v) : ∀ m : Nat, Vals (List.replicate m z) (List.replicate m v)
  | 0 => .nil
  | m + 1 => .cons r (vals_repl r m)
theorem op_repT : OpR X (binaryOp .Mult) (rRepT X.K) := by
  intro pins s σ H x y v u Q I rx ry h
  obtain ⟨a, k, z, rfl, rfl, ha, h1, h2, q⟩ := h
  cases rx
  obtain ⟨t, rfl⟩ := ry
  obtain ⟨its, r, p, hz⟩ := I.tuple ha
  obtain ⟨u, rfl, rz⟩ := vals1 r
  obtain ⟨⟨cls, dd, data, sl⟩, e, hc, n, hd⟩ := p
  cases hc
  cases hd
  refine wpAny_binaryOp_repeat_ref (T := "tuple") (U := "int") (by decide) ⟨_, e, rfl⟩ (fun s' => typeIs_int s' k t) noFill_tuple_mul F.fills_int_mul F.slot_int_rmul rep_tuple F.slot_int_index.lookup
    (call_meets F.slot_int_rmul (typeIs_int s k t) F.entry_int_rmul (F.args_int_rmul_2 _ _) (int_rmul_tuple k t a _ n dd sl)
      ⟨e, rfl, ⟨_, e, rfl⟩, call_meets F.slot_tuple_mul ⟨_, e, rfl⟩ F.entry_tuple_mul (F.args_tuple_mul_2 _ _) (tuple_mul_one a u n dd sl k t h1 h2) ⟨e, ?_⟩⟩)
  refine ⟨.ref s.heap.objs.size, _, I.laid (t' := s.toks) (o := .tup (List.replicate k.toNat z)) (fun b ob q => Heap.get?_push_of_some _ q) (Nat.le_refl _) ?_, rfl, q _ (I.hok.fresh (Nat.le_refl _))⟩
  have hline : 1000000 ≤ sizeLine := by rw [sizeLine_eq]; omega
  exact ⟨by rw [List.length_replicate]; omega, _, vals_repl rz _, IsTupN.new _ _⟩
def rCatA (K : PySem.W.Frag) : R2 := fun x y H Q => ∃ a b xs ys, x = .ref a ∧ y = .ref b ∧ SqT K H a xs ∧ SqT K H b ys ∧ xs.length + ys.length ≤ sizeLine ∧
  ((xs = [] ∧ Q (.ref b) H) ∨ (xs ≠ [] ∧ ys = [] ∧ Q (.ref a) H) ∨ (xs ≠ [] ∧ ys ≠ [] ∧ ∀ p, H p = none → Q (.ref p) (upd H p (.tup (xs ++ ys)))))
theorem op_catA : OpR X (binaryOp .Add) (rCatA X.K) := by
  intro pins s σ H x y v u Q I rx ry h
  obtain ⟨a, b, xs, ys, rfl, rfl, ha, hb, hz, h⟩ := h
  cases rx
  cases ry
  obtain ⟨its, r1, p1, _⟩ := I.tuple ha
  obtain ⟨its2, r2, p2, _⟩ := I.tuple hb
  rcases h with ⟨hx, q⟩ | ⟨hx, hy, q⟩ | ⟨hx, hy, q⟩
  · subst hx
    cases r1
    exact cat_tup0 p1 p2 ⟨.ref b, H, I, rfl, q⟩
  · exact HT.cat_tup p1 p2 (fun z => hx (r1.nil_iff.mp z)) (fun z => ⟨.ref a, H, I, rfl, q⟩) (fun z => absurd (r2.nil_iff.mpr hy) z) (by rw [← r1.length, ← r2.length]; exact hz)
  · refine HT.cat_tup p1 p2 (fun z => hx (r1.nil_iff.mp z)) (fun z => absurd (r2.nil_iff.mp z) hy) (fun z => ?_) (by rw [← r1.length, ← r2.length]; exact hz)
    refine ⟨.ref s.heap.objs.size, _, I.laid (t' := s.toks) (o := .tup (xs ++ ys)) (fun b ob q => Heap.get?_push_of_some _ q) (Nat.le_refl _) ?_, rfl, q _ (I.hok.fresh (Nat.le_refl _))⟩
    exact ⟨by rw [List.length_append]; exact hz, _, r1.append r2, IsTupN.new _ _⟩
end
end L2
namespace Tn
open PySem L2
theorem kit_not (K : PySem.W.Frag) {n m : String} (h0 : PySem.W.kitMeta m = true) (h1 : (Value.type n == Value.type m) = false) (h2 : (fastBuiltinMro n).map (·.contains (.type m)) = some false) : PySem.W.kitOne K (.type n) (.type m) = some false := by
  unfold PySem.W.kitOne
  rw [if_neg (by rw [h1]; decide)]
  show (if PySem.W.kitMeta m = true then PySem.W.subIn K (.type n) (.type m) else none) = some false
  rw [if_pos h0]
  exact h2
theorem bad_int (K : PySem.W.Frag) (H : Hp) (i : Int) : NestAt K H .bad (.int i) := ⟨(fun z => nomatch z), .ty (.int i) (kit_not K (by decide +kernel) (by decide +kernel) (by decide +kernel))⟩
theorem bad_bl (K : PySem.W.Frag) (H : Hp) (b : Bool) : NestAt K H .bad (.bl b) := ⟨(fun z => nomatch z), .ty (.bl b) (kit_not K (by decide +kernel) (by decide +kernel) (by decide +kernel))⟩
theorem bad_str (K : PySem.W.Frag) (H : Hp) (z : Str) : NestAt K H .bad (.str z) := ⟨(fun z => nomatch z), .ty (.str z) (kit_not K (by decide +kernel) (by decide +kernel) (by decide +kernel))⟩
theorem bad_lst (K : PySem.W.Frag) {H : Hp} {a : Addr} {xs : List V} (e : H a = some (.lst xs)) : NestAt K H .bad (.ref a) := ⟨(fun z => nomatch z), .ty (.lst e) (kit_not K (by decide +kernel) (by decide +kernel) (by decide +kernel))⟩
theorem bad_dK (K : PySem.W.Frag) {H : Hp} {a : Addr} {kvs : List (Key × V)} (e : H a = some (.dK kvs)) : NestAt K H .bad (.ref a) := ⟨(fun z => nomatch z), .ty (.dK e) (kit_not K (by decide +kernel) (by decide +kernel) (by decide +kernel))⟩
theorem bad_len (K : PySem.W.Frag) {H : Hp} {a : Addr} {xs : List V} (e : H a = some (.tup xs)) (h : xs.length ≠ 2) : NestAt K H .bad (.ref a) := ⟨(fun z => nomatch z), .len e h⟩
theorem typed_non (K : PySem.W.Frag) (H : Hp) : Typed K H .non := ⟨_, _, .non, kit_not K (by decide +kernel) (by decide +kernel) (by decide +kernel)⟩
theorem typed_tup (K : PySem.W.Frag) {H : Hp} {a : Addr} {xs : List V} (e : H a = some (.tup xs)) : Typed K H (.ref a) := ⟨_, _, .tup e, kit_same _ _⟩
theorem bad_none2 (K : PySem.W.Frag) {H : Hp} {a : Addr} {y : V} (e : H a = some (.tup [.non, y])) (hy : Typed K H y) : NestAt K H .bad (.ref a) := ⟨(fun z => nomatch z), .notStr e .non (kit_not K (by decide +kernel) (by decide +kernel) (by decide +kernel)) hy⟩
theorem bad_kind (K : PySem.W.Frag) {H : Hp} {a : Addr} {z : Str} {y : V} (e : H a = some (.tup [.str z, y])) (h1 : z ≠ "+") (h2 : z ≠ "-") (hy : Typed K H y) : NestAt K H .bad (.ref a) := ⟨(fun z => nomatch z), .kind e h1 h2 hy⟩
theorem bad_parts (K : PySem.W.Frag) {H : Hp} {a b : Addr} {k : Bool} {xs : List V} (e : H a = some (.tup [.str (kS k), .ref b])) (eb : H b = some (.lst xs)) : NestAt K H .bad (.ref a) := ⟨(fun z => nomatch z), .notTup e (.lst eb) (kit_not K (by decide +kernel) (by decide +kernel) (by decide +kernel))⟩
theorem bad_few (K : PySem.W.Frag) {H : Hp} {a b : Addr} {k : Bool} {xs : List V} (e : H a = some (.tup [.str (kS k), .ref b])) (eb : H b = some (.tup xs)) (h : xs.length < 2) : NestAt K H .bad (.ref a) := ⟨(fun z => nomatch z), .few e eb h⟩
theorem NestsAt.take {K : PySem.W.Frag} {H : Hp} : ∀ {ns : List Nest} {vs : List V} (k : Nat), NestsAt K H ns vs → NestsAt K H (ns.take k) (vs.take k)
  | _, _, 0, _ => by rw [List.take_zero, List.take_zero]; rfl
  | [], _, _ + 1, h => by have h : _ = [] := h; subst h; rfl
  | _ :: _, _, k + 1, ⟨v, vr, e, h1, h2⟩ => by subst e; exact ⟨v, _, rfl, h1, NestsAt.take k h2⟩
theorem NestsAt.drop {K : PySem.W.Frag} {H : Hp} : ∀ {ns : List Nest} {vs : List V} (k : Nat), NestsAt K H ns vs → NestsAt K H (ns.drop k) (vs.drop k)
  | _, _, 0, h => h
  | [], _, _ + 1, h => by have h : _ = [] := h; subst h; rfl
  | _ :: _, _, k + 1, ⟨v, vr, e, h1, h2⟩ => by subst e; exact NestsAt.drop k h2
theorem validL_bad {k : Bool} (a b : List Nest) {n : Nest} (h : valid (some k) n = false) : validL k (a ++ [n] ++ b) = false := by
  rw [validL_app, validL_app]
  simp [validL, h]
theorem cutV_head (xs : List V) (k : Nat) (h : k ≤ xs.length) : cutV xs none (some (k : Int)) = xs.take k := by
  have := cut_head id xs k h
  simpa using this
theorem cutV_tail (xs : List V) (k : Nat) (h : k ≤ xs.length) : cutV xs (some (k : Int)) none = xs.drop k := by
  have := cut_tail id xs k h
  simpa using this
theorem okN_bad : okN .bad = false := rfl
theorem okN_of {k : Bool} {ps : List Nest} (h : validL k ps = false ∨ 60 < wordsL ps) : okN (.knot k ps) = false := by
  unfold okN
  rcases h with h | h
  · simp [valid, h]
  · have : ¬ (words (.knot k ps) ≤ 60) := by simp only [words]; omega
    simp [this]
def spNone (K : PySem.W.Frag) : Sp := fun vs H Q _ => ∃ v n c, vs = [v, .int c] ∧ NestAt K H n v ∧ valid none n = true ∧ words n ≤ 60 ∧ ∀ (n' : Nest) (v' : V) (H' : Hp), NestAt K H' n' v' → okN n' = false → Same H H' → Q v' H'
end Tn
namespace Tn
open L2 PySem PySem.W PySem.Calls PyProof.Rows PySem.Spec
def Has (P : Program) (w : World) (K : PySem.W.Frag) (mg : Str → Option Value) (base : Heap) (CX : CXT) (k : Nat) (x : Str) (ps : List Str) (sp : Sp) : Prop :=
  ∃ (f : Addr) (fd : FuncData), FnOk P w K mg base CX k f fd ps sp ∧ PySem.W.keepIn K (.ref f) = true ∧ mg x = some (.ref f) ∧ Binds K fd ps []
structure Def (K : PySem.W.Frag) (mg : Str → Option Value) (x : Str) (st : Stmt) (ps : List Str) : Prop where
  ex : ∃ (f : Addr) (fd : FuncData), L2.Fun K x x st f fd ∧ PySem.W.keepIn K (.ref f) = true ∧ mg x = some (.ref f) ∧ Binds K fd ps []
section
variable {P : Program} {w : World} {K : PySem.W.Frag} {mg : Str → Option Value} {base : Heap} {x : Str} {st : Stmt} {N ps : List Str} {k : Nat} {sp sp' : Sp} {CX : CXT}
theorem Def.ok (D : Def K mg x st ps) (S : FnScope N ps (defScope st)) (len : ∀ vs H Q E, sp vs H Q E → vs.length = ps.length)
    (hbody : ∀ (f : Addr) (cdv : Value) (A : Around) (outer : List Env) (s : Shared) (H : Hp) (vs : List V) (Q : VK) (E : XK), Room k (A.deeper (envOfC x (defScope st) s.heap.objs.size f cdv)) → sp vs H Q E →
      ∃ t, PSs (cxOf CX0 P w K mg base N x (defScope st) f cdv A outer s H E).nox (defBody st) t ∧ t { nx := fun _ H' => Q .non H', rt := Q } (start N vs) H) : Has P w K mg base CX0 (k + 1) x ps sp := by
  obtain ⟨f, fd, F, h1, h2, h3⟩ := D.ex
  exact ⟨f, fd, F.ok S len (fun cdv A outer s H vs Q E => hbody f cdv A outer s H vs Q E), h1, h2, h3⟩
theorem Def.okV (D : Def K mg x st ps) (S : FnScope N ps (defScope st)) (len : ∀ vs H Q E, sp vs H Q E → vs.length = ps.length)
    (hbody : ∀ (f : Addr) (cdv : Value) (A : Around) (outer : List Env) (s : Shared) (H : Hp) (vs : List V) (Q : VK) (E : XK), Room k (A.deeper (envOfC x (defScope st) s.heap.objs.size f cdv)) → sp vs H Q E →
      ∃ t, PSs (cxOf (CXV P w) P w K mg base N x (defScope st) f cdv A outer s H E) (defBody st) t ∧ t { nx := fun _ H' => Q .non H', rt := Q } (start N vs) H) : Has P w K mg base (CXV P w) (k + 1) x ps sp := by
  obtain ⟨f, fd, F, h1, h2, h3⟩ := D.ex
  exact ⟨f, fd, funV F S len (fun cdv A outer s H vs Q E => hbody f cdv A outer s H vs Q E), h1, h2, h3⟩
theorem Def.rec0 (D : Def K mg x st ps) (h : ∀ vs H Q E, ¬ sp vs H Q E) : Has P w K mg base CX k x ps sp := by
  obtain ⟨f, fd, F, h1, h2, h3⟩ := D.ex
  exact ⟨f, fd, ⟨fun vs H Q E z => absurd z (h vs H Q E), fun A outer s H args us vs Q E _ _ _ _ z => absurd z (h vs H Q E)⟩, h1, h2, h3⟩
end
def tHas (sp : Sp) (E : XK) (t : TA) : TE := fun σ H Q => t σ H fun vs H1 => sp vs H1 Q E
section
variable {X : Cx}
theorem pe_has {CX : CXT} {k : Nat} {x : Str} {ps : List Str} {sp : Sp} {E : XK} {e : Expr} {es : List Expr} {t : TA} {p pos : Pos} (F : Has X.prog X.w X.K X.mg X.base CX k x ps sp) (hr : Room k X.A) (hg : Gl X x) (hx : Passes CX X E)
    (ha : PA X (e :: es) t) (hdb : (x == ("__debug__" : Str)) = false := by decide) (he : starEach (e :: es) X.env = (false, eval e X.env) :: starEach es X.env := by rfl) (hpl : (backTo pos (starEach es X.env)).any (·.1) = false := by rfl) :
    PE X (.Call (.Name x p) (e :: es) [] pos) (tHas sp E t) := by
  obtain ⟨f, fd, G, h1, h2, h3⟩ := F
  have e0 : tHas sp E t = tCall sp [] E t := by
    funext σ H Q
    show t σ H (fun vs H1 => sp vs H1 Q E) = t σ H (fun vs H1 => sp (vs ++ []) H1 Q E)
    congr 1
    funext vs H1
    rw [List.append_nil]
  rw [e0]
  exact pe_call G hr hg h2 h1 h3 .nil hx ha hdb he hpl
def rIsi (K : PySem.W.Frag) : List V → Hp → VK → Prop := fun xs H Q => ∃ x t n b, xs = [x, .ty n] ∧ TyOf K H x t ∧ PySem.W.kitOne K t (.type n) = some b ∧ Q (.bl b) H
end
structure ExcL (K : PySem.W.Frag) (T C : Addr) : Prop where
  xC : PySem.W.excIn K C bmVE "ValueError.__new__" = true
  tx : ExcTxt K C
  ct : CatTxt K T
  mr : PySem.W.mroIn K C (.ref T) = some true
  ve : PySem.W.kitOne K (.ref C) (.type "ValueError") = some true
def spCellAt (K : PySem.W.Frag) : Sp := fun vs H Q _ => ∃ (a : Addr) (ns : List Int) (k : Nat), vs = [.ref a, .int (k : Int)] ∧ SqL K H a (ns.map V.int) ∧ ∀ z : Int, Q (.int z) H
def spLawOf (K : PySem.W.Frag) : Sp := fun vs H Q _ => ∃ (a : Addr) (ns : List Int), vs = [.ref a] ∧ SqL K H a (ns.map V.int) ∧ ns.length ≤ 63 ∧ ∀ H', Q (.bl true) H'
end Tn
namespace Tn
open L2 PySem
theorem go_c {X : Cx} {s : Stmt} {ss : List Stmt} {C : TS → Prop} {t : TS} (hs : PS X s t) (k : let t' := t; ∃ u, PSs X ss u ∧ C (tSeq t' u)) : ∃ u, PSs X (s :: ss) u ∧ C u :=
  let ⟨_, hu, hc⟩ := k; ⟨_, pss_cons hs hu, hc⟩
theorem go_1 {X : Cx} {s : Stmt} {C : TS → Prop} {t : TS} (hs : PS X s t) (k : let t' := t; C t') : ∃ u, PSs X [s] u ∧ C u := ⟨_, pss_one hs, k⟩
end Tn
namespace Tn
theorem len_1 {α : Type} {us : List α} (h : us.length = 1) : ∃ a, us = [a] := match us, h with | [a], _ => ⟨a, rfl⟩
theorem len_2 {α : Type} {us : List α} (h : us.length = 2) : ∃ a b, us = [a, b] := match us, h with | [a, b], _ => ⟨a, b, rfl⟩
theorem len_3 {α : Type} {us : List α} (h : us.length = 3) : ∃ a b c, us = [a, b, c] := match us, h with | [a, b, c], _ => ⟨a, b, c, rfl⟩
end Tn
namespace L2
open PySem PySem.Spec PyProof.Rows
section
variable {prog : Program} {w : World} {A : Around} {E : Value → Shared → Prop} {s : Shared} {l : Addr} {xs : Array (Int × Tok)}
end
section
variable {X : Cx}
def rInsert : V → List V → Hp → VK → Prop := fun x vs H Q => ∃ (l : Addr) (xs : List V) (k : Nat) (y : V), x = .ref l ∧ vs = [.int (k : Int), y] ∧ H l = some (.lst xs) ∧ k ≤ xs.length ∧ xs.length < 1000000 ∧ Q .non (upd H l (.lst (xs.take k ++ [y] ++ xs.drop k)))
def rExtendT (K : PySem.W.Frag) : V → List V → Hp → VK → Prop := fun x vs H Q => ∃ l b xs zs, x = .ref l ∧ vs = [.ref b] ∧ H l = some (.lst xs) ∧ H b = some (.tup zs) ∧ xs.length + zs.length ≤ sizeLine ∧ Q .non (upd H l (.lst (xs ++ zs)))
inductive DEq (K : PySem.W.Frag) (H : Hp) : Nat → V → V → Bool → Prop where
  | flat {d : Nat} {x y : V} (hx : flatV x = true) (hy : flatV y = true) : DEq K H d x y (eqV x y)
  | same {d : Nat} {a : Addr} : DEq K H d (.ref a) (.ref a) true
  | tup {d : Nat} {a b : Addr} {xs ys : List V} {e : Nat → Bool} (hab : a ≠ b) (ha : SqT K H a xs) (hb : SqT K H b ys) (he : ∀ j x y, xs[j]? = some x → ys[j]? = some y → DEq K H d x y (e j)) : DEq K H (d + 1) (.ref a) (.ref b) ((List.range (min xs.length ys.length)).all e && xs.length == ys.length)
  | tupStr {d : Nat} {a : Addr} {xs : List V} {z : Str} (ha : SqT K H a xs) : DEq K H (d + 1) (.ref a) (.str z) false
theorem in1_units (A : Around) : A.in1.units ≤ A.units + 1 := by
  first | exact Nat.le_refl _ | (unfold Around.in1; simp) | (simp [Around.in1])
theorem deq_all {K : PySem.W.Frag} {H : Hp} {d : Nat} {a b : Addr} {xs ys : List V} {e : Nat → Bool} {k : Bool} (hab : a ≠ b) (ha : SqT K H a xs) (hb : SqT K H b ys) (hl : xs.length = ys.length) (he : ∀ j x y, xs[j]? = some x → ys[j]? = some y → DEq K H d x y (e j)) (hk : (List.range xs.length).all e = k) : DEq K H (d + 1) (.ref a) (.ref b) k := by
  have := DEq.tup hab ha hb he
  rw [← hl, Nat.min_self, hk, beq_self_eq_true, Bool.and_true] at this
  exact this
theorem deq_at {pins : List (Addr × Obj)} {σ : St} {H : Hp} {s : Shared} (I : Inv X pins σ H s) : ∀ {d : Nat} {x y : V} {b : Bool}, DEq X.K H d x y b → ∀ {A : Around} {u v : Value}, RelV x u → RelV y v → A.units + d < cLine → SeqAt.EqAt A s u v b := by
  intro d x y b h
  induction h with
  | flat hx hy => intro A u v rx ry _; exact eqAt_V rx ry hx hy
  | same => intro A u v rx ry _; cases rx; cases ry; exact SeqAt.EqAt.same _
  | tupStr ha =>
    intro A u v rx ry hu
    cases rx
    obtain ⟨t, rfl⟩ := ry
    obtain ⟨its, r1, p1, _⟩ := I.tuple ha
    exact SeqAt.EqAt.tuple_str _ _ (show s.heap.IsTuple _ its.toArray from p1) (by omega)
  | tup hab ha hb he ih =>
    rename_i d' a b xs ys e
    intro A u v rx ry hu
    cases rx
    cases ry
    obtain ⟨its, r1, p1, _⟩ := I.tuple ha
    obtain ⟨its2, r2, p2, _⟩ := I.tuple hb
    have l1 := r1.length
    have l2 := r2.length
    have hi := in1_units A
    refine SeqAt.EqAt.of_refs hab ?_
    have key := SeqAt.RcAt.tuples (A := A) (e := e) (show s.heap.IsTuple a its.toArray from p1) (show s.heap.IsTuple b its2.toArray from p2) (by omega) (fun j h1 h2 => ?_)
    · rw [List.size_toArray, List.size_toArray, ← l1, ← l2] at key
      exact key
    · have h1' : j < xs.length := by rw [l1]; simpa using h1
      have h2' : j < ys.length := by rw [l2]; simpa using h2
      obtain ⟨v1, e1, rv1⟩ := r1.get (i := j) (x := xs[j]) (by simp [h1'])
      obtain ⟨v2, e2, rv2⟩ := r2.get (i := j) (x := ys[j]) (by simp [h2'])
      have i1 : its.toArray[j] = v1 := by
        have := (List.getElem?_eq_some_iff.mp e1).2
        simpa using this
      have i2 : its2.toArray[j] = v2 := by
        have := (List.getElem?_eq_some_iff.mp e2).2
        simpa using this
      rw [i1, i2]
      exact ih j xs[j] ys[j] (by simp [h1']) (by simp [h2']) rv1 rv2 (by omega)
def rEqD (K : PySem.W.Frag) : R2 := fun x y H Q => ∃ (a b : Addr) (xs ys : List V) (e : Nat → Bool), x = .ref a ∧ y = .ref b ∧ SqT K H a xs ∧ SqT K H b ys ∧ (∀ j x y, xs[j]? = some x → ys[j]? = some y → DEq K H 40 x y (e j)) ∧ Q (.bl ((List.range (min xs.length ys.length)).all e && xs.length == ys.length)) H
def rEqB (K : PySem.W.Frag) (neg : Bool) : R2 := fun x y H Q => ∃ z : Str, y = .str z ∧ ((x = .non ∧ Q (.bl neg) H) ∨ (∃ a xs, x = .ref a ∧ SqT K H a xs ∧ Q (.bl neg) H) ∨ ∃ u, x = .str u ∧ Q (.bl (if neg then !decide (V.str u = V.str z) else decide (V.str u = V.str z))) H)
theorem op_eqB (hu : X.A.units < cLine) : OpR X (compareOp .Eq) (rEqB X.K false) := by
  intro pins s σ H x y v u Q I rx ry h
  obtain ⟨z, rfl, h⟩ := h
  obtain ⟨t, rfl⟩ := ry
  rcases h with ⟨rfl, q⟩ | ⟨a, xs, rfl, ha, q⟩ | ⟨w', rfl, q⟩
  · cases rx
    exact SeqAt.RcAt.none_str z t _ _ _ _ (fin_bl I q rfl)
  · cases rx
    obtain ⟨its, r1, p1, _⟩ := I.tuple ha
    exact SeqAt.RcAt.tuple_str z t (show s.heap.IsTuple a its.toArray from p1) hu _ _ _ _ (fin_bl I q rfl)
  · obtain ⟨t', rfl⟩ := rx
    exact SeqAt.RcAt.str_str w' t' z t _ _ _ _ (fin_bl I q dec_str)
end
end L2
namespace Tn
def mx2 (i j : Int) : Int := if j > i then j else i
def mn2 (i j : Int) : Int := if j < i then j else i
def mxL (l : List Int) : Int := l.foldl mx2 (-1)
def mnL (n : Int) (l : List Int) : Int := l.foldl mn2 n
def upB (ord : List Int) (p : Nat) : Bool := (ord.take p).all fun w => decide (w < (p : Int))
def dnB (ord : List Int) (p : Nat) : Bool := (ord.take p).all fun w => decide ((ord.length : Int) - (p : Int) ≤ w)
def negO (ord : List Int) : List Int := ord.map fun w => (ord.length : Int) - 1 - w
def places (ord : List Int) (q : Nat → Bool) (k : Nat) : List Nat := ((List.range k).map (· + 1)).filter q
def risF (ord : List Int) : List Nat := places ord (upB ord) (ord.length - 1)
def falF (ord : List Int) : List Nat := places ord (dnB ord) (ord.length - 1)
end Tn
namespace Tn
def RiseAt (l : List Int) (p : Nat) : Prop := ∀ a ∈ l.take p, ∀ b ∈ l.drop p, a < b
def FallAt (l : List Int) (p : Nat) : Prop := ∀ a ∈ l.take p, ∀ b ∈ l.drop p, b < a
def Bar1 (w x y z : Int) : Prop := y < w ∧ w < z ∧ z < x
def Bar2 (w x y z : Int) : Prop := x < z ∧ z < w ∧ w < y
def HasBar (l : List Int) : Prop := ∃ (i j k m : Nat) (w x y z : Int), i < j ∧ j < k ∧ k < m ∧ l[i]? = some w ∧ l[j]? = some x ∧ l[k]? = some y ∧ l[m]? = some z ∧ (Bar1 w x y z ∨ Bar2 w x y z)
end Tn
namespace L2
open PySem PySem.Spec PyProof.Rows
section
variable {X : Cx}
end
end L2
namespace Tn
open PySem L2
mutual
def rowN : Nest → Int → List Int
  | .word, f => [f]
  | .knot k ps, f => (if k then rowsN ps f else (rowsN ps f).reverse).flatten
  | .bad, _ => []
def rowsN : List Nest → Int → List (List Int)
  | [], _ => []
  | n :: r, f => rowN n f :: rowsN r (f + ((rowN n f).length : Int))
end
def fromTo (f : Int) (n : Nat) : List Int := (upto n).map fun z => f + z
def spRow (K : PySem.W.Frag) (d : Nat) : Sp := fun vs H Q _ => ∃ (v : V) (n : Nest) (o : Option Bool) (f : Int), vs = [v, .int f] ∧ NestAt K H n v ∧ valid o n = true ∧ depthN n < d ∧ words n ≤ 1000 ∧ ∀ (p : Addr) (H' : Hp), H p = none → H' p = some (.lst ((rowN n f).map V.int)) → Same H H' → Q (.ref p) H'
def partsOf (k : Bool) : Nest → List Nest
  | .knot k' ps => if k' = k then ps else [.knot k' ps]
  | n => [n]
def spJoin (K : PySem.W.Frag) : Sp := fun vs H Q _ => ∃ (k : Bool) (x y : V) (m n : Nest), vs = [.str (kS k), x, y] ∧ NestAt K H m x ∧ NestAt K H n y ∧ valid none m = true ∧ valid none n = true ∧ words m + words n ≤ 900 ∧ ∀ (v : V) (H' : Hp), NestAt K H' (.knot k (partsOf k m ++ partsOf k n)) v → Same H H' → Q v H'
def spLNest (K : PySem.W.Frag) : Sp := fun vs H Q _ => ∃ (l : Addr) (cs : List Int), vs = [.ref l] ∧ SqL K H l (cs.map V.int) ∧ cs.length ≤ 100 ∧ ∀ (n : Nest) (v : V) (H' : Hp), NestAt K H' n v → valid none n = true → words n = cs.length + 1 → Same H H' → Q v H'
def spFree (K : PySem.W.Frag) : Sp := fun vs H Q _ => ∃ (l : Addr) (cs : List Int), vs = [.ref l] ∧ SqL K H l (cs.map V.int) ∧ 1 ≤ cs.length ∧ cs.length ≤ 100 ∧ ∀ (p : Addr) (ord : List Int) (H' : Hp), H p = none → H' p = some (.lst (ord.map V.int)) → IsOrd ord → ord.length = cs.length → Same H H' → Q (.ref p) H'
def spLOrd (K : PySem.W.Frag) : Sp := fun vs H Q _ => ∃ (a : Addr) (ns : List Int), vs = [.ref a] ∧ SqL K H a (ns.map V.int) ∧ ns.length ≤ 63 ∧ ∀ (p : Addr) (ord : List Int) (H' : Hp), H p = none → H' p = some (.tup (ord.map V.int)) → IsOrd ord → 1 ≤ ord.length → ord.length ≤ 60 → Same H H' → Q (.ref p) H'
def LstsAt (H : Hp) (ps : List Addr) (xss : List (List Int)) : Prop := Paired (fun p xs => H p = some (.lst (xs.map V.int))) ps xss
theorem wordsL_at : ∀ {ps : List Nest} {i : Nat} {n : Nest}, ps[i]? = some n → words n ≤ wordsL ps
  | [], _, _, h => by simp at h
  | m :: r, 0, n, h => by simp at h; subst h; rw [wordsL]; omega
  | m :: r, i + 1, n, h => by have := wordsL_at (ps := r) (i := i) (n := n) (by simpa using h); rw [wordsL]; omega
def natV (l : List Nat) : List V := l.map fun (n : Nat) => V.int (n : Int)
def cutF (ord : List Int) : Str × List Nat := if risF ord = [] then (if falF ord = [] then ("", []) else ("-", falF ord)) else ("+", risF ord)
def CutAt (H : Hp) (c : Str × List Nat) (t p : Addr) : Prop := H t = some (.tup [.str c.1, .ref p]) ∧ H p = some (.tup (natV c.2))
def spCuts (K : PySem.W.Frag) : Sp := fun vs H Q _ => ∃ (o : Addr) (ord : List Int), vs = [.ref o] ∧ SqT K H o (ord.map V.int) ∧ IsOrd ord ∧ 1 ≤ ord.length ∧ ord.length ≤ 1000 ∧ ∀ (t p : Addr) (H' : Hp), H t = none → H p = none → CutAt H' (cutF ord) t p → Same H H' → Q (.ref t) H'
def spTold21 (K : PySem.W.Frag) : Sp := fun vs H Q _ => ∃ (o : Addr) (ord : List Int), vs = [.ref o] ∧ SqT K H o (ord.map V.int) ∧ IsOrd ord ∧ 1 ≤ ord.length ∧ ord.length ≤ 1000 ∧ ∀ H', Same H H' → Q (.bl true) H'
end Tn
namespace Tn
open PySem PySem.Spec PyProof.Rows
section
variable {prog : Program} {w : World} {A : Around} {E : Value → Shared → Prop} {s : Shared} {n : Nat} {t1 t2 : Addr} {k : Nat} {xs ys : Array Value} {x y a b : Value}
end
def zA (h : Heap) (t1 : Addr) : Heap := h.push { cls := .type "tuple_iterator", data := .fields #[.ref t1, .int 0 0] }
def zB (h : Heap) (t1 t2 : Addr) : Heap := (zA h t1).push { cls := .type "tuple_iterator", data := .fields #[.ref t2, .int 0 0] }
def zC (h : Heap) (t1 t2 : Addr) : Heap := ((zB h t1 t2).push { cls := .type "tuple", data := .seq #[.ref h.objs.size, .ref (zA h t1).objs.size] }).push { cls := .type "tuple", data := .seq #[.none, .none] }
end Tn
namespace L2
open PySem PySem.Spec PyProof.Rows
def Itz (a b : Addr) : It :=
  ⟨fun i H => ∃ xs ys x y, H a = some (.tup xs) ∧ H b = some (.tup ys) ∧ xs[i]? = some x ∧ ys[i]? = some y,
   fun i H v H' => ∃ p x y, H p = none ∧ v = .ref p ∧ (∀ xs, H a = some (.tup xs) → xs[i]? = some x) ∧ (∀ ys, H b = some (.tup ys) → ys[i]? = some y) ∧ H' = upd H p (.tup [x, y]),
   fun i H => ∃ xs ys, H a = some (.tup xs) ∧ H b = some (.tup ys) ∧ xs.length = i⟩
section
variable {X : Cx}
def iZip (ta : TA) : TI := fun σ H R => ta σ H fun vs H1 => ∃ a b xs ys, vs = [.ref a, .ref b] ∧ H1 a = some (.tup xs) ∧ H1 b = some (.tup ys) ∧ R (Itz a b) H1
end
end L2
namespace L2
open PySem PySem.Spec PyProof.Rows
def cSt2 (σ : St) (js : List Nat) : St := none :: none :: js.map fun j => (σ[j]?).getD none
structure CScope2 (S scope : Scope) (x x2 : Str) (N : List Str) (P : List Str) (js : List Nat) : Prop where
  kind : scope.kind = .function
  nocell : ∀ y ∈ scope.names, y.2 ≠ .cell
  loc : ∀ y ∈ scope.names, y.2 = .local → scope.names.lookup y.1 = some .local
  free : ∀ y ∈ scope.names, y.2 = .free → S.names.lookup y.1 = some .cell ∨ S.names.lookup y.1 = some .free
  own : scope.names.lookup x = some .local
  own2 : scope.names.lookup x2 = some .local
  nd : N.Nodup
  hd : N = x :: x2 :: (js.map fun j => (P[j]?).getD x)
  fr : ∀ j ∈ js, ∃ y, P[j]? = some y ∧ scope.names.lookup y = some .free
def csB2 (S scope : Scope) (x x2 : Str) (N P : List Str) (js : List Nat) : Bool :=
  (scope.kind == .function) && scope.names.all (fun y => !(y.2 == .cell)) && scope.names.all (fun y => !(y.2 == .local) || scope.names.lookup y.1 == some .local) &&
  scope.names.all (fun y => !(y.2 == .free) || (S.names.lookup y.1 == some .cell || S.names.lookup y.1 == some .free)) && (scope.names.lookup x == some .local) && (scope.names.lookup x2 == some .local) && decide N.Nodup && (N == x :: x2 :: (js.map fun j => (P[j]?).getD x)) &&
  js.all (fun j => match P[j]? with | some y => scope.names.lookup y == some .free | none => false)
section
variable {X : Cx} {pins : List (Addr × Obj)} {σ : St} {H : Hp} {s : Shared} {scope S : Scope} {cl : List (Str × Addr)} {C : Addr} {N : List Str} {fp : List Addr} {x x2 : Str} {js : List Nat}
end
section
variable {X : Cx} {pins : List (Addr × Obj)} {σ : St} {H : Hp} {s : Shared} {scope S : Scope} {cl : List (Str × Addr)} {N : List Str} {fp : List Addr} {x x2 : Str} {js : List Nat}
def CompW2 (J : It) (g : TG) (tc : TT) (te : TE) (js : List Nat) (σ : St) (H1 : Hp) (Q : VK) (D : Addr) : Prop :=
  ∃ W : Nat → Nat → List V → St → Hp → Prop, (∃ m, W 0 m [] (cSt2 σ js) (upd H1 D (.lst []))) ∧ ∀ i m acc σ' H', W i m acc σ' H' → H' D = some (.lst acc) ∧
    ((J.stop i H' ∧ Q (.ref D) H') ∨ (J.go i H' ∧ acc.length < sizeLine ∧ ∀ y H2, J.yld i H' y H2 → g y σ' H2 fun σ3 H3 => tc σ3 H3 fun b H4 =>
      if b = true then te σ3 H4 fun z H5 => H5 D = some (.lst acc) ∧ ∃ m', m' < m ∧ W (i + 1) m' (acc ++ [z]) σ3 (upd H5 D (.lst (acc ++ [z])))
      else ∃ m', m' < m ∧ W (i + 1) m' acc σ3 H4))
def tComp2 (wi : TI) (g : TG) (tc : TT) (te : TE) (js : List Nat) : TE := fun σ H Q => wi σ H fun J H1 => ∀ D, H1 D = none → CompW2 J g tc te js σ H1 Q D
variable {elt iter tg : Expr} {ifs : List Expr} {pos : Pos} {wi : TI} {g : TG} {tc : TT} {te : TE}
end
end L2
namespace L2
open PySem
def rLstOf (K : PySem.W.Frag) : List V → Hp → VK → Prop := fun xs H Q => ∃ p ys, xs = [.ref p] ∧ (SqL K H p ys ∨ SqT K H p ys) ∧ ∀ l, H l = none → Q (.ref l) (upd H l (.lst ys))
end L2
namespace Tn
open PySem L2
def allO {α : Type} : List (Option α) → Option (List α)
  | [] => some []
  | none :: _ => none
  | some a :: r => (allO r).map (a :: ·)
def firstsF (ps : List Nat) : List Nat := 0 :: ps
def behindsF (n : Nat) (ps : List Nat) : List Nat := ps ++ [n]
def stretchF (ord : List Int) (ps : List Nat) : List (List Int) := ((firstsF ps).zip (behindsF ord.length ps)).map fun ab => (ord.drop ab.1).take (ab.2 - ab.1)
def nestF : Nat → List Int → Option Nest
  | 0, _ => none
  | d + 1, ord => if ord.length = 1 then some .word else if (cutF ord).2 = [] then none else
    (allO ((stretchF ord (cutF ord).2).map fun b => nestF d (leftF ord b))).map fun ns => if (cutF ord).1 = kS false then .knot false ns.reverse else .knot true ns
def Asc (n : Nat) (ps : List Nat) : Prop := ps.Pairwise (· < ·) ∧ ∀ p ∈ ps, 1 ≤ p ∧ p < n
def barS : Str := "barred"
def TellsN (K : PySem.W.Frag) (H : Hp) (o : Option Nest) (v : V) : Prop := match o with
  | some n => NestAt K H n v
  | none => v = .str barS
def spStretch (K : PySem.W.Frag) : Sp := fun vs H Q _ => ∃ (o p : Addr) (ord : List Int) (ps : List Nat), vs = [.ref o, .ref p] ∧ SqT K H o (ord.map V.int) ∧ H p = some (.tup (natV ps)) ∧ Asc ord.length ps ∧ ps ≠ [] ∧ 1 ≤ ord.length ∧ ord.length ≤ 900 ∧
  ∀ (q : Addr) (qs : List Addr) (H' : Hp), H q = none → (∀ x ∈ qs, H x = none) → H' q = some (.lst (qs.map V.ref)) → LstsAt H' qs (stretchF ord ps) → Same H H' → Q (.ref q) H'
def spNestOf (K : PySem.W.Frag) (d : Nat) : Sp := fun vs H Q _ => ∃ (o : Addr) (ord : List Int), vs = [.ref o] ∧ SqT K H o (ord.map V.int) ∧ IsOrd ord ∧ 1 ≤ ord.length ∧ ord.length ≤ 60 ∧ ord.length ≤ d ∧ ∀ (v : V) (H' : Hp), TellsN K H' (nestF d ord) v → Same H H' → Q v H'
end Tn
namespace Tn
open PySem L2
mutual
def fit : Nest → Bool
  | .word => true
  | .knot _ ps => decide (2 ≤ ps.length) && fitL ps
  | .bad => false
def fitL : List Nest → Bool
  | [] => true
  | n :: r => fit n && fitL r
end
mutual
theorem NestAt.fit {K : PySem.W.Frag} {H : Hp} : ∀ {n : Nest} {o : Option Bool} {v : V}, NestAt K H n v → valid o n = true → Tn.fit n = true
  | .word, _, _, _, _ => rfl
  | .knot k ps, _, _, ⟨a, b, vs, _, _, _, h2, _, h5⟩, hv => by
    have hvl : validL k ps = true := by simp only [valid, Bool.and_eq_true] at hv; exact hv.2
    have hl := h5.len
    rw [Tn.fit, NestsAt.fit h5 hvl, decide_eq_true (by omega)]
    rfl
  | .bad, _, _, _, hv => by simp [valid] at hv
theorem NestsAt.fit {K : PySem.W.Frag} {H : Hp} : ∀ {ps : List Nest} {k : Bool} {vs : List V}, NestsAt K H ps vs → validL k ps = true → fitL ps = true
  | [], _, _, _, _ => rfl
  | n :: r, k, _, ⟨v, vr, _, h1, h2⟩, hv => by
    simp only [validL, Bool.and_eq_true] at hv
    rw [fitL, NestAt.fit h1 hv.1, NestsAt.fit h2 hv.2]
    rfl
end
theorem fitL_mem : ∀ {ps : List Nest} {n : Nest}, fitL ps = true → n ∈ ps → fit n = true
  | _ :: r, n, h, hm => by
    rw [fitL, Bool.and_eq_true] at h
    rcases List.mem_cons.mp hm with rfl | hm
    · exact h.1
    · exact fitL_mem h.2 hm
theorem validL_mem : ∀ {ps : List Nest} {k : Bool} {n : Nest}, validL k ps = true → n ∈ ps → valid (some k) n = true
  | _ :: r, k, n, h, hm => by
    simp only [validL, Bool.and_eq_true] at h
    rcases List.mem_cons.mp hm with rfl | hm
    · exact h.1
    · exact validL_mem h.2 hm
def Rk (k : Bool) (a b : Int) : Prop := if k then a < b else b < a
def Apart (k : Bool) (x y : List Int) : Prop := ∀ a ∈ x, ∀ b ∈ y, Rk k a b
def seenB (k : Bool) (rs : List (List Int)) : List (List Int) := if k then rs else rs.reverse
structure Blocks (k : Bool) (bs : List (List Int)) : Prop where
  two : 2 ≤ bs.length
  ne : ∀ x ∈ bs, x ≠ []
  ap : bs.Pairwise (Apart k)
def bordF : Nat → List (List Int) → List Nat
  | _, [] => []
  | _, [_] => []
  | a, b :: c :: r => (a + b.length) :: bordF (a + b.length) (c :: r)
def cutB (k : Bool) (ord : List Int) : Nat → Bool := if k then upB ord else dnB ord
end Tn
namespace Tn
open PySem L2
def PairsAt (K : PySem.W.Frag) (H : Hp) (qs : List Addr) (ns : List Nest) : Prop := Paired (fun q n => ∃ x y, H q = some (.tup [x, y]) ∧ NestAt K H n x ∧ NestAt K H n y) qs ns
def sizeS (ns : List Nest) : Nat := (ns.map sizeN).sum
def spAlike (K : PySem.W.Frag) : Sp := fun vs H Q _ => ∃ (x y : V) (n : Nest), vs = [x, y] ∧ NestAt K H n x ∧ NestAt K H n y ∧ Tn.fit n = true ∧ sizeN n ≤ 900 ∧ ∀ H', Same H H' → Q (.bl true) H'
def rSumL (K : PySem.W.Frag) : List V → Hp → VK → Prop := fun vs H Q => ∃ (p : Addr) (ns : List Int), vs = [.ref p] ∧ SqL K H p (ns.map V.int) ∧ Q (.int ns.sum) H
end Tn
namespace L2
open PySem PySem.Spec PyProof PyProof.Rows
section
variable {X : Cx}
theorem strsAre_of : ∀ {xs : List Str} {us : List Value}, Vals (xs.map V.str) us → StrsAre us xs
  | [], _, r => by cases r; exact .nil
  | x :: xs, _, r => by
    cases r with
    | cons rx rr =>
      obtain ⟨t, rfl⟩ := rx
      exact .cons x t (strsAre_of rr)
def rJoin (K : PySem.W.Frag) : V → List V → Hp → VK → Prop := fun x vs H Q => ∃ (sep : Str) (b : Addr) (xs : List Str), x = .str sep ∧ vs = [.ref b] ∧ SqL K H b (xs.map V.str) ∧ (xs.map (·.length)).sum + xs.length * sep.length ≤ 16777216 ∧ Q (.str (Txt.join sep xs)) H
theorem mt_join : MtM X "str.join" (rJoin X.K) := by
  intro pins s σ H x vs v us Q I rx rv h
  obtain ⟨sep, b, xs, rfl, rfl, hb, hz, q⟩ := h
  obtain ⟨t, rfl⟩ := rx
  obtain ⟨u, rfl, ru⟩ := vals1 rv
  cases ru
  obtain ⟨its, r, pl, _⟩ := I.list hb
  exact join_list pl.isList (by simpa using strsAre_of r) hz fun t' k => ⟨.str _, H, I.tok _, ⟨_, rfl⟩, q⟩
def rCountS : V → List V → Hp → VK → Prop := fun x vs H Q => ∃ (i j : Str), x = .str i ∧ vs = [.str j] ∧ Q (.int (Txt.count i j)) H
theorem mt_countS : MtM X "str.count" rCountS := by
  intro pins s σ H x vs v us Q I rx rv h
  obtain ⟨i, j, rfl, rfl, q⟩ := h
  obtain ⟨t, rfl⟩ := rx
  obtain ⟨u, rfl, ru⟩ := vals1 rv
  obtain ⟨t', rfl⟩ := ru
  exact SC.count ⟨.int _, H, I.tok _, ⟨_, rfl⟩, q⟩
def rSlS : V → Option Int → Option Int → Hp → VK → Prop := fun x lo hi H Q => ∃ i : Str, x = .str i ∧ i.length ≤ sizeLine ∧ Q (.str (Txt.slice i lo hi)) H
theorem sl_str : SlR X rSlS := by
  intro pins s σ H x v vl vu lo hi sl Q I rx hs pl pu h
  obtain ⟨i, rfl, hz, q⟩ := h
  obtain ⟨t, rfl⟩ := rx
  refine ⟨"str", _, F.slot_str_getitem.lookup, typeIs_str _ _ _, ?_⟩
  have fin : ∀ t' k, EP X pins σ Q (.str (Txt.slice i lo hi) t') { s with toks := k } := fun t' k => ⟨.str _, H, I.tok _, ⟨_, rfl⟩, q⟩
  cases pl with
  | none =>
    cases pu with
    | none => exact wpAny_getItem_str_slice (l := none) (u := none) (st := none) hs rfl (post_val_or_str ⟨Nat.le_trans (Txt.slice_le i _ _) hz, fin⟩)
    | int j uj => exact wpAny_getItem_str_slice (l := none) (u := some (j, uj)) (st := none) hs rfl (post_val_or_str ⟨Nat.le_trans (Txt.slice_le i _ _) hz, fin⟩)
  | int k uk =>
    cases pu with
    | none => exact wpAny_getItem_str_slice (l := some (k, uk)) (u := none) (st := none) hs rfl (post_val_or_str ⟨Nat.le_trans (Txt.slice_le i _ _) hz, fin⟩)
    | int j uj => exact wpAny_getItem_str_slice (l := some (k, uk)) (u := some (j, uj)) (st := none) hs rfl (post_val_or_str ⟨Nat.le_trans (Txt.slice_le i _ _) hz, fin⟩)
theorem fold_rep (a : Array Nat) : ∀ (n : Nat) (acc : Array Nat), ((List.replicate n a).foldl (· ++ ·) acc).toList = acc.toList ++ (List.replicate n a.toList).flatten
  | 0, acc => by simp
  | n + 1, acc => by
    rw [List.replicate_succ, List.foldl_cons, fold_rep a n, List.replicate_succ, List.flatten_cons, Array.toList_append, List.append_assoc]
def repS (i : Str) (n : Nat) : Str := ⟨(List.replicate n i.cps).foldl (· ++ ·) #[]⟩
def rRepS : R2 := fun x y H Q => ∃ (i : Str) (n : Nat), x = .str i ∧ y = .int (n : Int) ∧ i.length ≤ 1000 ∧ n ≤ 1000 ∧ Q (.str (repS i n)) H
theorem op_repS : OpR X (binaryOp .Mult) rRepS := by
  intro pins s σ H x y v u Q I rx ry h
  obtain ⟨i, n, rfl, rfl, hi, hn, q⟩ := h
  obtain ⟨t, rfl⟩ := rx
  obtain ⟨t', rfl⟩ := ry
  have hmul : i.length * n ≤ 1000 * 1000 := Nat.mul_le_mul hi hn
  have fin : ∀ (z : Str), z = repS i n → ∀ tk k, EP X pins σ Q (.str z tk) { s with toks := k } := fun z hz tk k => ⟨.str _, H, I.tok _, ⟨_, rfl⟩, hz ▸ q⟩
  refine PySem.P.mul_str (by rw [decide_eq_false (by omega), decide_eq_false (by omega)]; rfl) (fun h1 _ => ?_) (fun _ _ => ?_) ?_
  · intro h2
    have h3 : (i.length : Int) * (n : Int) ≤ 1000000 := by
      have := Int.ofNat_le.mpr hmul
      simpa using this
    have h4 : (2 ^ 63 - 1 : Int) / (n : Int) < (i.length : Int) := h2
    have h5 := (Int.ediv_lt_iff_lt_mul (by omega)).mp h4
    omega
  · rw [show ((n : Int)).toNat = n by omega]
    unfold PySem.Builtin.Str.tooLong sizeLine
    exact decide_eq_false (by omega)
  · by_cases h1 : (n : Int) < 1
    · rw [if_pos h1]
      have : n = 0 := by omega
      subst this
      exact ⟨by decide, fin _ rfl _ _⟩
    · rw [if_neg h1]
      by_cases h2 : (((n : Int)) == 1 || i.length == 0) = true
      · rw [if_pos h2]
        refine fin i ?_ t s.toks
        have e : i.cps.toList = (repS i n).cps.toList := by
          unfold repS
          rw [fold_rep]
          rcases Bool.or_eq_true_iff.mp h2 with h | h
          · have : n = 1 := by have := eq_of_beq h; omega
            subst this
            simp
          · have : i.cps = #[] := Array.eq_empty_of_size_eq_zero (eq_of_beq h)
            rw [this]
            simp
        exact congrArg Str.mk (Array.toList_inj.mp e)
      · rw [if_neg h2]
        refine ⟨?_, fin _ (by rw [show ((n : Int)).toNat = n by omega]; rfl) _ _⟩
        show ((List.replicate ((n : Int)).toNat i.cps).foldl (· ++ ·) #[]).size ≤ sizeLine
        rw [show ((n : Int)).toNat = n by omega, ← Array.length_toList, fold_rep]
        have : i.cps.size = i.length := rfl
        simp [this, sizeLine_eq]
        rw [Nat.mul_comm]
        omega
end
end L2
namespace Tn
open PySem L2
mutual
def txN : Nest → List Nat
  | .word => [46]
  | .bad => []
  | .knot k ps => 40 :: (if k then 43 else 45) :: (txL ps ++ [41])
def txL : List Nest → List Nat
  | [] => []
  | n :: r => txN n ++ txL r
end
inductive RSt where
  | done (r : Option (List Nest))
  | more (cs : List Nat) (ks : List Bool) (pss : List (List Nest))
def mkN (k : Bool) (ps : List Nest) : Nest := if ps.length < 2 then .bad else .knot k ps
def stepR (strict : Bool) : List Nat → List Bool → List (List Nest) → RSt
  | [], [], [p] => .done (some p)
  | [], _, _ => .done none
  | 46 :: r, ks, p :: pss => .more r ks ((p ++ [.word]) :: pss)
  | 40 :: 43 :: r, ks, pss => .more r (true :: ks) ([] :: pss)
  | 40 :: 45 :: r, ks, pss => .more r (false :: ks) ([] :: pss)
  | 41 :: r, k :: ks, p :: q :: pss => if strict = true ∧ (p.length < 2 ∨ ks.head? = some k) then .done none else .more r ks ((q ++ [mkN k p]) :: pss)
  | _, _, _ => .done none
theorem step_len {s : Bool} {cs cs' : List Nat} {ks ks' : List Bool} {pss pss' : List (List Nest)} (h : stepR s cs ks pss = .more cs' ks' pss') : cs'.length < cs.length := by
  unfold stepR at h
  split at h <;> first | (cases h; simp only [List.length_cons]; omega) | (split at h <;> first | (cases h; simp only [List.length_cons]; omega) | cases h) | cases h
def runR (s : Bool) : Nat → List Nat → List Bool → List (List Nest) → Option (List Nest)
  | 0, _, _, _ => none
  | n + 1, cs, ks, pss => match stepR s cs ks pss with
    | .done r => r
    | .more cs' ks' pss' => runR s n cs' ks' pss'
theorem run_fuel (s : Bool) : ∀ (n m : Nat) (cs : List Nat) (ks : List Bool) (pss : List (List Nest)), cs.length < n → cs.length < m → runR s n cs ks pss = runR s m cs ks pss
  | 0, _, _, _, _, h, _ => absurd h (Nat.not_lt_zero _)
  | _ + 1, 0, _, _, _, _, h => absurd h (Nat.not_lt_zero _)
  | n + 1, m + 1, cs, ks, pss, h1, h2 => by
    rw [runR, runR]
    cases e : stepR s cs ks pss with
    | done r => rfl
    | more cs' ks' pss' =>
      have := step_len e
      exact run_fuel s n m cs' ks' pss' (by omega) (by omega)
def readG (s : Bool) (cs : List Nat) (ks : List Bool) (pss : List (List Nest)) : Option (List Nest) := runR s (cs.length + 1) cs ks pss
theorem read_more {s : Bool} {cs cs' : List Nat} {ks ks' : List Bool} {pss pss' : List (List Nest)} (h : stepR s cs ks pss = .more cs' ks' pss') : readG s cs ks pss = readG s cs' ks' pss' := by
  have := step_len h
  unfold readG
  rw [runR, h]
  exact run_fuel s _ _ cs' ks' pss' (by omega) (by omega)
theorem read_done {s : Bool} {cs : List Nat} {ks : List Bool} {pss : List (List Nest)} {r : Option (List Nest)} (h : stepR s cs ks pss = .done r) : readG s cs ks pss = r := by
  unfold readG
  rw [runR, h]
def allV (o : Option Bool) (p : List Nest) : Bool := p.all (valid o)
theorem allV_some (k : Bool) : ∀ (p : List Nest), allV (some k) p = validL k p
  | [] => rfl
  | n :: r => by
    have := allV_some k r
    unfold allV at this ⊢
    rw [List.all_cons, this, validL]
def frV : List Bool → List (List Nest) → Bool
  | [], [p] => allV none p
  | k :: ks, p :: pss => allV (some k) p && frV ks pss
  | _, _ => false
theorem frV_app {n : Nest} : ∀ {ks : List Bool} {p : List Nest} {pss : List (List Nest)}, frV ks ((p ++ [n]) :: pss) = (frV ks (p :: pss) && valid ks.head? n)
  | [], p, [] => by simp [frV, allV]
  | [], p, _ :: _ => by simp [frV]
  | k :: ks, p, pss => by
    simp only [frV, allV, List.all_append, List.all_cons, List.all_nil, Bool.and_true, List.head?_cons]
    rw [Bool.and_assoc, Bool.and_assoc, Bool.and_comm (valid (some k) n)]
theorem frV_push {k : Bool} {ks : List Bool} {pss : List (List Nest)} : frV (k :: ks) ([] :: pss) = frV ks pss := by simp [frV, allV]
theorem valid_mk {o : Option Bool} {k : Bool} {p : List Nest} : valid o (mkN k p) = (!(decide (p.length < 2 ∨ o = some k)) && validL k p) := by
  unfold mkN
  split
  · rename_i h
    simp [valid, h]
  · rename_i h
    simp [valid, h]
theorem frV_pop {k : Bool} {ks : List Bool} {p q : List Nest} {pss : List (List Nest)} : frV ks ((q ++ [mkN k p]) :: pss) = (!(decide (p.length < 2 ∨ ks.head? = some k)) && frV (k :: ks) (p :: q :: pss)) := by
  rw [frV_app, valid_mk, ← allV_some, show frV (k :: ks) (p :: q :: pss) = (allV (some k) p && frV ks (q :: pss)) from rfl]
  cases frV ks (q :: pss) <;> cases allV (some k) p <;> simp
theorem read_bad : ∀ (n : Nat) (cs : List Nat) (ks : List Bool) (pss : List (List Nest)) (ps : List Nest), cs.length < n → frV ks pss = false → readG false cs ks pss = some ps → allV none ps = false
  | 0, _, _, _, _, h, _, _ => absurd h (Nat.not_lt_zero _)
  | n + 1, cs, ks, pss, ps, hn, hv, h => by
    cases e : stepR false cs ks pss with
    | done r =>
      rw [read_done e] at h
      subst h
      unfold stepR at e
      split at e <;> first | (cases e; exact hv) | (split at e <;> cases e) | cases e
    | more cs' ks' pss' =>
      rw [read_more e] at h
      have hl := step_len e
      refine read_bad n cs' ks' pss' ps (by omega) ?_ h
      unfold stepR at e
      split at e
      · cases e
      · cases e
      · cases e
        rw [frV_app, hv, Bool.false_and]
      · cases e
        rw [frV_push, hv]
      · cases e
        rw [frV_push, hv]
      · split at e
        · cases e
        · cases e
          rw [frV_pop, hv, Bool.and_false]
      · cases e
theorem read_both : ∀ (n : Nat) (cs : List Nat) (ks : List Bool) (pss : List (List Nest)), cs.length < n → frV ks pss = true → readG true cs ks pss = (readG false cs ks pss).bind fun ps => if allV none ps = true then some ps else none
  | 0, _, _, _, h, _ => absurd h (Nat.not_lt_zero _)
  | n + 1, cs, ks, pss, hn, hv => by
    cases e : stepR false cs ks pss with
    | done r =>
      have e2 : stepR true cs ks pss = .done r := by
        unfold stepR at e ⊢
        split at e <;> simp_all
      rw [read_done e, read_done e2]
      cases r with
      | none => rfl
      | some ps =>
        have : allV none ps = true := by
          unfold stepR at e
          split at e <;> first | (cases e; exact hv) | (split at e <;> cases e) | cases e
        simp [this]
    | more cs' ks' pss' =>
      have hl := step_len e
      rw [read_more e]
      by_cases hb : frV ks' pss' = true
      · have e2 : stepR true cs ks pss = .more cs' ks' pss' := by
          unfold stepR at e ⊢
          split at e
          · cases e
          · cases e
          · cases e; rfl
          · cases e; rfl
          · cases e; rfl
          · split at e
            · cases e
            · cases e
              rw [frV_pop, Bool.and_eq_true] at hb
              have := hb.1
              rw [Bool.not_eq_true', decide_eq_false_iff_not] at this
              rw [if_neg fun z => this z.2]
          · cases e
        rw [read_more e2]
        exact read_both n cs' ks' pss' (by omega) hb
      · have hb' : frV ks' pss' = false := by simpa using hb
        have e2 : stepR true cs ks pss = .done none := by
          unfold stepR at e ⊢
          split at e
          · cases e
          · cases e
          · cases e
            rw [frV_app, hv] at hb'
            simp [valid] at hb'
          · cases e
            rw [frV_push, hv] at hb'
            cases hb'
          · cases e
            rw [frV_push, hv] at hb'
            cases hb'
          · split at e
            · cases e
            · cases e
              rw [frV_pop, hv, Bool.and_true, Bool.not_eq_false', decide_eq_true_eq] at hb'
              rw [if_pos ⟨rfl, hb'⟩]
          · cases e
        rw [read_done e2]
        cases h : readG false cs' ks' pss' with
        | none => rfl
        | some ps =>
          have := read_bad _ cs' ks' pss' ps (Nat.lt_succ_self _) hb' h
          simp [this]
mutual
theorem read_tx : ∀ {n : Nest} {ks : List Bool} {p : List Nest} {pss : List (List Nest)} {cs : List Nat}, fit n = true → readG false (txN n ++ cs) ks (p :: pss) = readG false cs ks ((p ++ [n]) :: pss)
  | .word, ks, p, pss, cs, _ => read_more (show stepR false (46 :: cs) ks (p :: pss) = _ from rfl)
  | .bad, _, _, _, _, h => by simp [fit] at h
  | .knot k qs, ks, p, pss, cs, h => by
    simp only [fit, Bool.and_eq_true, decide_eq_true_eq] at h
    have h1 : readG false (txN (.knot k qs) ++ cs) ks (p :: pss) = readG false (txL qs ++ (41 :: cs)) (k :: ks) ([] :: p :: pss) := by
      cases k
      · refine read_more ?_
        simp [txN, stepR]
      · refine read_more ?_
        simp [txN, stepR]
    rw [h1, read_txL h.2, List.nil_append]
    refine read_more ?_
    simp [stepR, mkN, show ¬ qs.length < 2 by omega]
theorem read_txL : ∀ {ps : List Nest} {ks : List Bool} {p : List Nest} {pss : List (List Nest)} {cs : List Nat}, fitL ps = true → readG false (txL ps ++ cs) ks (p :: pss) = readG false cs ks ((p ++ ps) :: pss)
  | [], ks, p, pss, cs, _ => by simp [txL]
  | n :: r, ks, p, pss, cs, h => by
    simp only [fitL, Bool.and_eq_true] at h
    rw [txL, List.append_assoc, read_tx h.1, read_txL h.2]
    simp
end
theorem read_text {n : Nest} (h : fit n = true) : readG false (txN n) [] [[]] = some [n] := by
  have := read_tx (cs := []) (ks := []) (p := []) (pss := []) h
  rw [List.append_nil] at this
  rw [this]
  exact read_done rfl
def dots (cs : List Nat) : Nat := (cs.filter (· == 46)).length
theorem read_dots : ∀ (n : Nat) (cs : List Nat) (ks : List Bool) (pss : List (List Nest)) (ps : List Nest), cs.length < n → frV ks pss = true → readG true cs ks pss = some ps → wordsL ps = (pss.map wordsL).sum + dots cs
  | 0, _, _, _, _, h, _, _ => absurd h (Nat.not_lt_zero _)
  | n + 1, cs, ks, pss, ps, hn, hv, h => by
    cases e : stepR true cs ks pss with
    | done r =>
      rw [read_done e] at h
      subst h
      unfold stepR at e
      split at e
      · cases e
        simp [dots]
      · cases e
      · cases e
      · cases e
      · cases e
      · split at e <;> cases e
      · cases e
    | more cs' ks' pss' =>
      rw [read_more e] at h
      have hl := step_len e
      have key : frV ks' pss' = true ∧ (pss'.map wordsL).sum + dots cs' = (pss.map wordsL).sum + dots cs := by
        unfold stepR at e
        split at e
        · cases e
        · cases e
        · cases e
          refine ⟨by rw [frV_app, hv]; simp [valid], ?_⟩
          simp [dots, wordsL_app, wordsL, words]
          omega
        · cases e
          exact ⟨by rw [frV_push, hv], by simp [dots, wordsL]⟩
        · cases e
          exact ⟨by rw [frV_push, hv], by simp [dots, wordsL]⟩
        · split at e
          · cases e
          · rename_i hc
            cases e
            have hc' := fun z => hc ⟨rfl, z⟩
            refine ⟨by rw [frV_pop, hv, decide_eq_false hc']; rfl, ?_⟩
            have h2 : ¬ _ < 2 := fun z => hc' (.inl z)
            simp [dots, wordsL_app, wordsL, words, mkN, h2]
            omega
        · cases e
      rw [← key.2]
      exact read_dots n cs' ks' pss' ps (by omega) key.1 h
def txS (n : Nest) : Str := ⟨(txN n).toArray⟩
mutual
theorem tx_len : ∀ {n : Nest}, fit n = true → (txN n).length + 3 ≤ 4 * words n
  | .word, _ => by decide
  | .bad, h => by simp [fit] at h
  | .knot k ps, h => by
    simp only [fit, Bool.and_eq_true, decide_eq_true_eq] at h
    have := tx_lenL h.2
    simp only [txN, words, List.length_append, List.length_cons, List.length_nil]
    omega
theorem tx_lenL : ∀ {ps : List Nest}, fitL ps = true → (txL ps).length + 3 * ps.length ≤ 4 * wordsL ps
  | [], _ => by decide
  | n :: r, h => by
    simp only [fitL, Bool.and_eq_true] at h
    have h1 := tx_len h.1
    have h2 := tx_lenL h.2
    simp only [txL, wordsL, List.length_append, List.length_cons]
    omega
end
def readP (cs : List Nat) : Option Nest := match readG false cs [] [[]] with
  | some [n] => if okN n = true then some n else none
  | _ => none
theorem readP_law {cs : List Nat} {n : Nest} : readP cs = some n ↔ (readG true cs [] [[]] = some [n] ∧ dots cs ≤ 60) := by
  have hv : frV [] [[]] = true := rfl
  have hb := read_both _ cs [] [[]] (Nat.lt_succ_self _) hv
  unfold readP
  constructor
  · intro h
    split at h
    · rename_i m e
      split at h
      · rename_i hok
        cases h
        obtain ⟨v1, v2⟩ := okN_valid hok
        have e2 : readG true cs [] [[]] = some [n] := by rw [hb, e]; simp [allV, v1]
        have := read_dots _ cs [] [[]] [n] (Nat.lt_succ_self _) hv e2
        simp [wordsL] at this
        exact ⟨e2, by omega⟩
      · cases h
    · cases h
  · rintro ⟨h1, h2⟩
    have hd := read_dots _ cs [] [[]] [n] (Nat.lt_succ_self _) hv h1
    simp [wordsL] at hd
    rw [hb] at h1
    obtain ⟨ps, e1, e2⟩ := Option.bind_eq_some_iff.mp h1
    split at e2
    · rename_i ha
      cases e2
      rw [e1]
      have : okN n = true := by
        unfold okN
        simp [allV] at ha
        simp [ha]
        omega
      simp [this]
    · cases e2
theorem readP_text {n : Nest} (hf : fit n = true) (hok : okN n = true) : readP (txN n) = some n := by
  unfold readP
  rw [read_text hf]
  simp [hok]
def spWritten (K : PySem.W.Frag) (d : Nat) : Sp := fun vs H Q _ => ∃ (v : V) (n : Nest) (o : Option Bool), vs = [v] ∧ NestAt K H n v ∧ valid o n = true ∧ depthN n < d ∧ words n ≤ 60 ∧ ∀ H', Same H H' → Q (.str (txS n)) H'
def spShow (K : PySem.W.Frag) (C : Addr) : Sp := fun vs H Q E => ∃ (v : V) (n : Nest), vs = [v] ∧ NestAt K H n v ∧ (okN n = true → ∀ H', Same H H' → Q (.str (txS n)) H') ∧ (okN n = false → ∀ H', Same H H' → E (.ref C) none H')
theorem str_ext {x y : Str} (h : x.cps.toList = y.cps.toList) : x = y := congrArg Str.mk (Array.toList_inj.mp h)
theorem str_cat (x y : Str) : (x ++ y).cps.toList = x.cps.toList ++ y.cps.toList := by
  show (x.cps ++ y.cps).toList = _
  rw [Array.toList_append]
theorem fold_cat : ∀ (l : List Str) (a : Array Nat), (l.foldl (fun acc p => acc ++ (Str.ofString "").cps ++ p.cps) a).toList = a.toList ++ l.flatMap fun t => t.cps.toList
  | [], a => by simp
  | x :: l, a => by
    rw [List.foldl_cons, fold_cat l, List.flatMap_cons, Array.toList_append, Array.toList_append, ← List.append_assoc]
    congr 1
    rw [show (Str.ofString "").cps.toList = [] from rfl, List.append_nil]
theorem join_empty : ∀ (ts : List Str), (Txt.join "" ts).cps.toList = ts.flatMap fun t => t.cps.toList
  | [] => rfl
  | x :: l => by
    show (l.foldl (fun acc p => acc ++ (Str.ofString "").cps ++ p.cps) x.cps).toList = _
    rw [fold_cat, List.flatMap_cons]
theorem txS_cps (n : Nest) : (txS n).cps.toList = txN n := by simp [txS]
theorem join_tx (ps : List Nest) : Txt.join "" (ps.map txS) = ⟨(txL ps).toArray⟩ := by
  refine str_ext ?_
  rw [join_empty]
  induction ps with
  | nil => rfl
  | cons n r ih =>
    rw [List.map_cons, List.flatMap_cons, ih, txS_cps, txL]
theorem tx_sum (ps : List Nest) : ((ps.map txS).map (·.length)).sum = (txL ps).length := by
  induction ps with
  | nil => rfl
  | cons n r ih =>
    rw [List.map_cons, List.map_cons, List.sum_cons, ih, txL, List.length_append]
    rfl
theorem kS_cps (k : Bool) : (kS k).cps.toList = [if k then 43 else 45] := by cases k <;> decide +kernel
theorem tx_knot (k : Bool) (ps : List Nest) : ((("(" : Str) ++ kS k) ++ (⟨(txL ps).toArray⟩ : Str)) ++ (")" : Str) = txS (.knot k ps) := by
  refine str_ext ?_
  rw [str_cat, str_cat, str_cat, kS_cps, txS_cps, txN]
  simp
  rfl
theorem str_len (x y : Str) : (x ++ y).length = x.length + y.length := by
  show (x.cps ++ y.cps).size = _
  rw [Array.size_append]
  rfl
def pts (cs : List Nat) : Nat := (cs.filter fun c => c == 46 || c == 41).length
def spOnlyN (K : PySem.W.Frag) (C : Addr) : Sp := fun vs H Q E => ∃ (l : Addr) (us : List V) (ns : List Nest), vs = [.ref l] ∧ H l = some (.lst us) ∧ NestsAt K H ns us ∧
  (∀ n v, ns = [n] → us = [v] → okN n = true → ∀ H', Same H H' → Q v H') ∧ ((∀ n, ns = [n] → okN n = false) → ∀ H', Same H H' → E (.ref C) none H')
def spRead (K : PySem.W.Frag) (C : Addr) : Sp := fun vs H Q E => ∃ v : V, vs = [v] ∧ ((∃ x : Str, v = .str x ∧ x.length ≤ 3000 ∧ pts x.cps.toList ≤ 900 ∧ (∀ n, readP x.cps.toList = some n → ∀ v' H', NestAt K H' n v' → Same H H' → Q v' H') ∧ (readP x.cps.toList = none → ∀ H', Same H H' → E (.ref C) none H')) ∨
  (∃ t, TyOf K H v t ∧ PySem.W.kitOne K t (.type "str") = some false ∧ ∀ H', Same H H' → E (.ref C) none H'))
end Tn
namespace Tn
open PySem L2 PySem.Builtin.Str
theorem rng_one (a b : Nat) : sliceRange (a : Int) (b : Int) 1 = (List.range (b - a)).map fun k => a + k := by
  unfold sliceRange
  rw [if_pos (by decide)]
  by_cases h : (a : Int) < (b : Int)
  · rw [if_pos h]
    dsimp only
    rw [show (((b : Int) - (a : Int) + 1 - 1) / 1).toNat = b - a by rw [Int.ediv_one]; omega]
    refine List.map_congr_left fun k _ => ?_
    omega
  · rw [if_neg h]
    dsimp only
    rw [show b - a = 0 by omega]
    rfl
theorem pick_rng (L : Array Nat) (a b : Nat) (hb : b ≤ L.size) : ((sliceRange (a : Int) (b : Int) 1).filterMap (L[·]?)) = (L.toList.drop a).take (b - a) := by
  rw [rng_one, List.filterMap_map]
  apply List.ext_getElem?
  intro k
  have e : ((List.range (b - a)).filterMap ((fun x => L[x]?) ∘ fun k => a + k)) = (List.range (b - a)).map fun k => L.getD (a + k) 0 := by
    have g : ∀ (l : List Nat), (∀ k ∈ l, a + k < L.size) → l.filterMap ((fun x => L[x]?) ∘ fun k => a + k) = l.map fun k => L.getD (a + k) 0 := fun l => by
      induction l with
      | nil => exact fun _ => rfl
      | cons k l ih =>
        intro h
        have hk := h k (.head _)
        rw [List.filterMap_cons_some (b := L.getD (a + k) 0) (by simp [hk]), List.map_cons, ih fun j hj => h j (.tail _ hj)]
    exact g _ fun k hk => by have := List.mem_range.mp hk; omega
  rw [e, List.getElem?_map, List.getElem?_take, List.getElem?_drop]
  by_cases hk : k < b - a
  · rw [List.getElem?_range hk, if_pos hk]
    simp [show a + k < L.size by omega]
  · rw [if_neg hk]
    simp
    omega
theorem slice_at (x : Str) (lo hi : Option Int) (a b : Nat) (hb : b ≤ x.length) (h : strSliceIndices lo hi 1 x.length = sliceRange (a : Int) (b : Int) 1) : (Txt.slice x lo hi).cps.toList = (x.cps.toList.drop a).take (b - a) := by
  unfold Txt.slice
  rw [h]
  split
  · rename_i hc
    have hl : (sliceRange (a : Int) (b : Int) 1).length = x.length := by simpa using hc
    rw [rng_one, List.length_map, List.length_range] at hl
    have ha : a = 0 ∨ x.length = 0 := by omega
    have hn : x.cps.toList.length = x.length := by simp [Str.length]
    rcases ha with ha | ha
    · subst ha
      rw [List.drop_zero, List.take_of_length_le (by omega)]
    · have : x.cps.toList = [] := List.length_eq_zero_iff.mp (by omega)
      rw [this]
      simp
  · rw [pick_rng _ _ _ hb]
theorem slice_ss (x : Str) (i j : Nat) (hi : i ≤ x.length) : (Txt.slice x (some (i : Int)) (some (j : Int))).cps.toList = (x.cps.toList.drop i).take (j - i) := by
  rw [slice_at x _ _ i (min j x.length) (by omega) ?_]
  · by_cases h : j ≤ x.length
    · rw [Nat.min_eq_left h]
    · rw [Nat.min_eq_right (by omega)]
      have hn : x.cps.toList.length = x.length := by simp [Str.length]
      rw [List.take_of_length_le (by rw [List.length_drop]; omega), List.take_of_length_le (by rw [List.length_drop]; omega)]
  · unfold strSliceIndices
    simp
    congr 1 <;> omega
theorem slice_ns (x : Str) (j : Nat) : (Txt.slice x none (some (j : Int))).cps.toList = x.cps.toList.take j := by
  rw [slice_at x _ _ 0 (min j x.length) (by omega) ?_]
  · rw [List.drop_zero, Nat.sub_zero]
    by_cases h : j ≤ x.length
    · rw [Nat.min_eq_left h]
    · rw [Nat.min_eq_right (by omega)]
      have hn : x.cps.toList.length = x.length := by simp [Str.length]
      rw [List.take_of_length_le (by omega), List.take_of_length_le (by omega)]
  · unfold strSliceIndices
    simp
    congr 1 <;> omega
theorem slice_sn (x : Str) (i : Nat) (hi : i ≤ x.length) : (Txt.slice x (some (i : Int)) none).cps.toList = x.cps.toList.drop i := by
  rw [slice_at x _ _ i x.length (Nat.le_refl _) ?_]
  · have hn : x.cps.toList.length = x.length := by simp [Str.length]
    rw [List.take_of_length_le (by rw [List.length_drop]; omega)]
  · unfold strSliceIndices
    simp
    congr 1 <;> omega
end Tn
namespace Tn
open PySem L2
def FrA (K : PySem.W.Frag) (H : Hp) : List Addr → List (List Nest) → Prop
  | [], [] => True
  | a :: as, p :: pss => (∃ vs, H a = some (.lst vs) ∧ NestsAt K H p vs) ∧ FrA K H as pss
  | _, _ => False
theorem FrA.len {K : PySem.W.Frag} {H : Hp} : ∀ {as : List Addr} {pss : List (List Nest)}, FrA K H as pss → as.length = pss.length
  | [], [], _ => rfl
  | [], _ :: _, h => h.elim
  | _ :: _, [], h => h.elim
  | _ :: _, _ :: _, h => congrArg (· + 1) (FrA.len h.2)
theorem FrA.mono {K : PySem.W.Frag} {H H' : Hp} (s : Same H H') : ∀ {as : List Addr} {pss : List (List Nest)}, FrA K H as pss → FrA K H' as pss
  | [], [], _ => trivial
  | [], _ :: _, h => h.elim
  | _ :: _, [], h => h.elim
  | _ :: _, _ :: _, h => ⟨let ⟨vs, e, n⟩ := h.1; ⟨vs, s _ _ e, NestsAt.mono s n⟩, FrA.mono s h.2⟩
theorem FrA.upd {K : PySem.W.Frag} {H : Hp} {c : Addr} {us vs : List V} (e : H c = some (.lst us)) : ∀ {as : List Addr} {pss : List (List Nest)}, c ∉ as → FrA K H as pss → FrA K (upd H c (.lst vs)) as pss
  | [], [], _, _ => trivial
  | [], _ :: _, _, h => h.elim
  | _ :: _, [], _, h => h.elim
  | a :: as, _ :: _, hc, h => ⟨let ⟨ws, ea, n⟩ := h.1; ⟨ws, by have hac : a ≠ c := fun z => hc (by rw [z]; exact .head _); rw [upd_ne hac]; exact ea, NestsAt.updL e n⟩, FrA.upd e (fun z => hc (.tail _ z)) h.2⟩
theorem step_open (s : Bool) (k : Bool) (r : List Nat) (ks : List Bool) (pss : List (List Nest)) : stepR s (40 :: (if k then 43 else 45) :: r) ks pss = .more r (k :: ks) ([] :: pss) := by
  cases k
  · simp [stepR]
  · simp [stepR]
theorem step_no {s : Bool} {c : Nat} {r : List Nat} {ks : List Bool} {pss : List (List Nest)} (h1 : ∀ (k : Bool) (r' : List Nat), c :: r ≠ 40 :: (if k then 43 else 45) :: r') (h2 : c ≠ 46) (h3 : c = 41 → ks = []) : stepR s (c :: r) ks pss = .done none := by
  have a1 := h1 true
  have a2 := h1 false
  unfold stepR
  split <;> simp_all
theorem two_is {cs : List Nat} {k : Bool} (h : cs.take 2 = [40, if k then 43 else 45]) : ∃ r, cs = 40 :: (if k then 43 else 45) :: r := by
  match cs, h with
  | [], h => simp at h
  | [_], h => simp at h
  | a :: b :: r, h =>
    simp at h
    exact ⟨r, by rw [h.1, h.2]⟩
def opS (k : Bool) : Str := if k then "(+" else "(-"
theorem opS_cps (k : Bool) : (opS k).cps.toList = [40, if k then 43 else 45] := by cases k <;> decide +kernel
theorem one_is {c d : Nat} : ((⟨#[c]⟩ : Str) = ⟨#[d]⟩) ↔ c = d := ⟨fun h => by have := congrArg (fun x : Str => x.cps.toList) h; simpa using this, fun h => by rw [h]⟩
theorem in_open {op : Str} : inV (V.str op) [V.str "(+", V.str "(-"] = true ↔ ∃ k, op = opS k := by
  constructor
  · intro h
    unfold inV at h
    simp [eqV] at h
    rcases h with h | h
    · exact ⟨true, h.symm⟩
    · exact ⟨false, h.symm⟩
  · rintro ⟨k, rfl⟩
    cases k <;> decide +kernel
theorem at_top (a : Addr) (as : List Addr) : atI ((a :: as).reverse.map V.ref) (-1) = some (V.ref a) := by
  rw [List.reverse_cons, List.map_append]
  exact atI_last _ _
theorem line3000 {n : Nat} (h : n ≤ 3000) : n < sizeLine := Nat.lt_of_le_of_lt h (by decide)
theorem pts_cons (c : Nat) (r : List Nat) : pts (c :: r) = (if c = 46 ∨ c = 41 then 1 else 0) + pts r := by
  unfold pts
  rw [List.filter_cons]
  by_cases h : c = 46 ∨ c = 41
  · rw [if_pos (by rcases h with h | h <;> simp [h]), if_pos h, List.length_cons]
    omega
  · rw [if_neg (by simpa [not_or] using h), if_neg h]
    omega
theorem FrA.not_in {K : PySem.W.Frag} {H : Hp} {c : Addr} (hc : H c = none) : ∀ {as : List Addr} {pss : List (List Nest)}, FrA K H as pss → c ∉ as
  | [], _, _, h => by cases h
  | _ :: _, [], hf, _ => hf.elim
  | b :: bs, p :: ps, hf, hm => by
    obtain ⟨⟨vs, eb, _⟩, hf2⟩ := hf
    rcases List.mem_cons.mp hm with h | h
    · rw [h, eb] at hc; cases hc
    · exact FrA.not_in hc hf2 h
theorem mk_at {K : PySem.W.Frag} {H : Hp} {a b : Addr} {k : Bool} {p : List Nest} {vs : List V} (ha : H a = some (.tup [.str (kS k), .ref b])) (hb : H b = some (.tup vs)) (hl : vs.length ≤ 1000) (hn : NestsAt K H p vs) : NestAt K H (mkN k p) (.ref a) := by
  have := hn.len
  unfold mkN
  split
  · exact bad_few K ha hb (by omega)
  · exact ⟨a, b, vs, rfl, ha, hb, by omega, hl, hn⟩
def EnA (H : Hp) : List (Addr × Addr) → List Bool → Prop
  | [x], [] => H x.1 = some (.lst [.str "", .ref x.2])
  | x :: es, k :: ks => H x.1 = some (.lst [.str (kS k), .ref x.2]) ∧ EnA H es ks
  | _, _ => False
theorem EnA.mono {H H' : Hp} (s : Same H H') : ∀ {es : List (Addr × Addr)} {ks : List Bool}, EnA H es ks → EnA H' es ks
  | [], _, h => by cases h
  | [_], [], h => s _ _ h
  | _ :: _ :: _, [], h => by cases h
  | [_], _ :: _, h => ⟨s _ _ h.1, by have := h.2; cases this⟩
  | _ :: y :: es, k :: ks, h => ⟨s _ _ h.1, EnA.mono s h.2⟩
theorem EnA.upd {H : Hp} {c : Addr} {o : HO} : ∀ {es : List (Addr × Addr)} {ks : List Bool}, c ∉ es.map (·.1) → EnA H es ks → EnA (upd H c o) es ks
  | [], _, _, h => by cases h
  | [x], [], hc, h => by
    have : x.1 ≠ c := fun z => hc (by rw [← z]; exact .head _)
    show L2.upd H c o x.1 = _
    rw [upd_ne this]
    exact h
  | _ :: _ :: _, [], _, h => by cases h
  | [_], _ :: _, _, h => by have := h.2; cases this
  | x :: y :: es, k :: ks, hc, h => by
    have : x.1 ≠ c := fun z => hc (by rw [← z]; exact .head _)
    exact ⟨by rw [upd_ne this]; exact h.1, EnA.upd (fun z => hc (.tail _ z)) h.2⟩
theorem EnA.len {H : Hp} : ∀ {es : List (Addr × Addr)} {ks : List Bool}, EnA H es ks → es.length = ks.length + 1
  | [], _, h => by cases h
  | [_], [], _ => rfl
  | _ :: _ :: _, [], h => by cases h
  | [_], _ :: _, h => by have := h.2; cases this
  | _ :: y :: es, k :: ks, h => congrArg (· + 1) (EnA.len (es := y :: es) h.2)
theorem EnA.not_in {H : Hp} {c : Addr} (hc : H c = none) : ∀ {es : List (Addr × Addr)} {ks : List Bool}, EnA H es ks → c ∉ es.map (·.1)
  | [], _, h, _ => by cases h
  | [x], [], h, hm => by
    have : c = x.1 := by simpa using hm
    rw [this] at hc
    have h : H x.1 = _ := h
    rw [h] at hc
    cases hc
  | _ :: _ :: _, [], h, _ => by cases h
  | [_], _ :: _, h, _ => by have := h.2; cases this
  | x :: y :: es, k :: ks, h, hm => by
    rcases List.mem_cons.mp hm with z | z
    · rw [z] at hc
      have h1 : H x.1 = _ := h.1
      rw [h1] at hc
      cases hc
    · exact EnA.not_in hc h.2 z
def oK (ks : List Bool) : Str := match ks with
  | [] => ""
  | k :: _ => kS k
theorem EnA.top {H : Hp} : ∀ {x : Addr × Addr} {es : List (Addr × Addr)} {ks : List Bool}, EnA H (x :: es) ks → H x.1 = some (.lst [.str (oK ks), .ref x.2])
  | _, [], [], h => h
  | _, _ :: _, [], h => by cases h
  | _, [], _ :: _, h => h.1
  | _, _ :: _, _ :: _, h => h.1
theorem kS_oK {k : Bool} {ks : List Bool} : (kS k = oK ks) ↔ ks.head? = some k := by
  cases ks with
  | nil => cases k <;> decide +kernel
  | cons j ks => cases k <;> cases j <;> simp [oK] <;> decide +kernel
def spClosed14 (K : PySem.W.Frag) : Sp := fun vs H Q _ => ∃ (k : Bool) (ks : List Bool) (a : Addr) (us : List V) (p : List Nest), vs = [.str (kS k), .ref a, .str (oK ks)] ∧ H a = some (.lst us) ∧ us.length ≤ 1000 ∧ NestsAt K H p us ∧ ((p.length < 2 ∨ ks.head? = some k) → Q .non H) ∧ (¬ (p.length < 2 ∨ ks.head? = some k) → ∀ (t : Addr) (H' : Hp), NestAt K H' (.knot k p) (.ref t) → Same H H' → Q (.ref t) H')
def spLRead (K : PySem.W.Frag) : Sp := fun vs H Q _ => ∃ x : Str, vs = [.str x] ∧ x.length ≤ 3000 ∧ pts x.cps.toList ≤ 900 ∧ (∀ n, readP x.cps.toList = some n → ∀ (l : Addr) (v : V) (H' : Hp), H' l = some (.lst [v]) → NestAt K H' n v → Same H H' → Q (.ref l) H') ∧ (readP x.cps.toList = none → ∀ (l : Addr) (H' : Hp), H' l = some (.lst []) → Same H H' → Q (.ref l) H')
theorem occ_cnt (x : Str) (c : Nat) : ∀ (k a : Nat) (st : Array Nat × Nat), st.2 ≤ a → st.1.size + k ≤ x.length + 1 → a + k = x.length + 1 → (forIn (List.range' a k) st (PySem.StrLaws.occBody x ⟨#[c]⟩ x.length (x.length + 1))).run.fst.size = st.1.size + ((x.cps.toList.drop a).filter (· == c)).length
  | 0, a, st, _, _, h => by
    have hn : x.cps.toList.length = x.length := by simp [Str.length]
    rw [List.drop_eq_nil_of_le (by omega)]
    rfl
  | k + 1, a, st, h1, h2, h3 => by
    rw [List.range'_succ, List.forIn_cons]
    have hone := PySem.StrLaws.subAt_one x c a
    by_cases hc : x.cps.toList[a]? = some c
    · obtain ⟨q1, q2⟩ := hone.mpr hc
      obtain ⟨l1, l2⟩ := List.getElem?_eq_some_iff.mp hc
      have e : PySem.StrLaws.occBody x ⟨#[c]⟩ x.length (x.length + 1) a st = pure (ForInStep.yield (st.1.push a, a + 1)) := by
        unfold PySem.StrLaws.occBody
        rw [if_pos ⟨⟨⟨by omega, h1⟩, q1⟩, q2⟩]
        rfl
      rw [e]
      have := occ_cnt x c k (a + 1) (st.1.push a, a + 1) (Nat.le_refl _) (by simp; omega) (by omega)
      rw [List.drop_eq_getElem_cons l1, l2, List.filter_cons_of_pos (by simp), List.length_cons]
      simp at this ⊢
      rw [this]
      omega
    · have e : PySem.StrLaws.occBody x ⟨#[c]⟩ x.length (x.length + 1) a st = pure (ForInStep.yield (st.1, st.2)) := by
        unfold PySem.StrLaws.occBody
        rw [if_neg fun z => hc (hone.mp ⟨z.1.2, z.2⟩)]
      rw [e]
      have := occ_cnt x c k (a + 1) (st.1, st.2) (Nat.le_succ_of_le h1) (by simp; omega) (by omega)
      have ed : ((x.cps.toList.drop a).filter (· == c)) = ((x.cps.toList.drop (a + 1)).filter (· == c)) := by
        by_cases ha : a < x.cps.toList.length
        · rw [List.drop_eq_getElem_cons ha, List.filter_cons_of_neg]
          intro z
          exact hc (by rw [List.getElem?_eq_getElem ha, eq_of_beq z])
        · rw [List.drop_eq_nil_of_le (by omega), List.drop_eq_nil_of_le (by omega)]
      rw [ed]
      exact this
theorem count_dots (x : Str) : Txt.count x "." = (dots x.cps.toList : Int) := by
  have h := occ_cnt x 46 (x.length + 1) 0 (#[], 0) (Nat.le_refl _) (by simp) (by omega)
  have e : (Str.ofString ".") = ⟨#[46]⟩ := by decide +kernel
  show ((PySem.Builtin.Str.occurrences x (Str.ofString ".") 0 x.length (x.length + 1)).length : Int) = _
  rw [e, PySem.StrLaws.occ_eq, Array.length_toList]
  rw [List.drop_zero] at h
  have : (forIn (List.range' 0 (x.length + 1 - 0)) ((#[] : Array Nat), 0) (PySem.StrLaws.occBody x ⟨#[46]⟩ x.length (x.length + 1))).run.fst.size = dots x.cps.toList := by
    rw [Nat.sub_zero, h]
    simp [dots]
  rw [this]
def ItA (K : PySem.W.Frag) (H : Hp) : List (Option Nest) → List V → Prop
  | [], us => us = []
  | some n :: r, us => ∃ v ur, us = v :: ur ∧ NestAt K H n v ∧ ItA K H r ur
  | none :: r, us => ∃ ur, us = .str ")" :: ur ∧ ItA K H r ur
theorem ItA.mono {K : PySem.W.Frag} {H H' : Hp} (s : Same H H') : ∀ {is : List (Option Nest)} {us : List V}, ItA K H is us → ItA K H' is us
  | [], _, h => h
  | some _ :: _, _, ⟨v, ur, e, h1, h2⟩ => ⟨v, ur, e, h1.mono s, ItA.mono s h2⟩
  | none :: _, _, ⟨ur, e, h2⟩ => ⟨ur, e, ItA.mono s h2⟩
theorem ItA.updL {K : PySem.W.Frag} {H : Hp} {c : Addr} {ws vs : List V} (e : H c = some (.lst ws)) : ∀ {is : List (Option Nest)} {us : List V}, ItA K H is us → ItA K (upd H c (.lst vs)) is us
  | [], _, h => h
  | some _ :: _, _, ⟨v, ur, e0, h1, h2⟩ => ⟨v, ur, e0, NestAt.updL e h1, ItA.updL e h2⟩
  | none :: _, _, ⟨ur, e0, h2⟩ => ⟨ur, e0, ItA.updL e h2⟩
theorem ItA.len {K : PySem.W.Frag} {H : Hp} : ∀ {is : List (Option Nest)} {us : List V}, ItA K H is us → is.length = us.length
  | [], _, h => by have h : _ = [] := h; subst h; rfl
  | some _ :: _, _, ⟨_, _, e, _, h2⟩ => by subst e; simp [ItA.len h2]
  | none :: _, _, ⟨_, e, h2⟩ => by subst e; simp [ItA.len h2]
theorem ItA.nests {K : PySem.W.Frag} {H : Hp} : ∀ {ns : List Nest} {vs : List V} {is : List (Option Nest)} {us : List V}, NestsAt K H ns vs → ItA K H is us → ItA K H (ns.map some ++ is) (vs ++ us)
  | [], vs, _, _, h, hi => by have h : vs = [] := h; subst h; exact hi
  | _ :: _, _, _, _, ⟨v, vr, e, h1, h2⟩, hi => by subst e; exact ⟨v, _, rfl, h1, ItA.nests h2 hi⟩
def itx : List (Option Nest) → List Nat
  | [] => []
  | some n :: r => txN n ++ itx r
  | none :: r => 41 :: itx r
theorem itx_app : ∀ (a b : List (Option Nest)), itx (a ++ b) = itx a ++ itx b
  | [], _ => rfl
  | some n :: r, b => by rw [List.cons_append, itx, itx, itx_app r b, List.append_assoc]
  | none :: r, b => by rw [List.cons_append, itx, itx, itx_app r b]; rfl
theorem itx_nests (ns : List Nest) : itx (ns.map some) = txL ns := by
  induction ns with
  | nil => rfl
  | cons n r ih => rw [List.map_cons, itx, ih, txL]
def itS : List (Option Nest) → Nat
  | [] => 0
  | some n :: r => 2 * sizeN n + itS r
  | none :: r => 1 + itS r
theorem itS_nests (ns : List Nest) (b : List (Option Nest)) : itS (ns.map some ++ b) = 2 * sizeL ns + itS b := by
  induction ns with
  | nil => simp [sizeL]
  | cons n r ih => rw [List.map_cons, List.cons_append, itS, ih, sizeL]; omega
def itV (is : List (Option Nest)) : Prop := ∀ n, some n ∈ is → fit n = true ∧ ∃ o, valid o n = true
theorem tx_pos : ∀ {n : Nest}, fit n = true → 1 ≤ (txN n).length
  | .word, _ => by decide
  | .bad, h => by simp [fit] at h
  | .knot k ps, _ => by simp [txN]
theorem it_len : ∀ {is : List (Option Nest)}, itV is → is.length ≤ (itx is).length
  | [], _ => Nat.le_refl _
  | some n :: r, h => by
    have h1 := tx_pos (h n (.head _)).1
    have h2 := it_len (is := r) fun m hm => h m (.tail _ hm)
    rw [itx, List.length_append, List.length_cons]
    omega
  | none :: r, h => by
    have h2 := it_len (is := r) fun m hm => h m (.tail _ hm)
    rw [itx, List.length_cons, List.length_cons]
    omega
def spText (K : PySem.W.Frag) : Sp := fun vs H Q _ => ∃ (v : V) (n : Nest), vs = [v] ∧ NestAt K H n v ∧ valid none n = true ∧ words n ≤ 60 ∧ ∀ H', Same H H' → Q (.str (txS n)) H'
theorem sum_len (xs : List Str) : (xs.map (·.length)).sum = (xs.flatMap fun t => t.cps.toList).length := by
  induction xs with
  | nil => rfl
  | cons x r ih =>
    rw [List.map_cons, List.sum_cons, ih, List.flatMap_cons, List.length_append]
    rfl
theorem at_some {α : Type} (xs : List α) (i : Int) (h : 0 < xs.length) : ∃ v ∈ xs, atI xs (i % (xs.length : Int)) = some v := by
  have h0 := Int.emod_nonneg i (show (xs.length : Int) ≠ 0 by omega)
  have h1 := Int.emod_lt_of_pos i (show (0 : Int) < (xs.length : Int) by omega)
  have hl : (i % (xs.length : Int)).toNat < xs.length := by omega
  refine ⟨xs[(i % (xs.length : Int)).toNat], List.getElem_mem _, ?_⟩
  have := atI_nat (List.getElem?_eq_getElem hl)
  rw [show (((i % (xs.length : Int)).toNat : Nat) : Int) = i % (xs.length : Int) by omega] at this
  exact this
theorem pts_le (cs : List Nat) : pts cs ≤ cs.length := List.length_filter_le _ _
def spSpoilt14 : Sp := fun vs H Q _ => ∃ (x : Str) (c : Int), vs = [.str x, .int c] ∧ 1 ≤ x.length ∧ x.length ≤ 300 ∧ ∀ (y : Str) (H' : Hp), y.length ≤ 310 → Same H H' → Q (.str y) H'
def spSmall14 : Sp := fun vs H Q _ => ∃ c : Int, vs = [.int c] ∧ ∀ (y : Str) (H' : Hp), y.length ≤ 310 → Same H H' → Q (.str y) H'
def spRefK (K : PySem.W.Frag) : Sp := fun vs H Q _ => ∃ (v : V) (y : Int), vs = [v, .int y] ∧ ((y = 0 ∧ ((∃ x : Str, v = .str x ∧ x.length ≤ 3000 ∧ pts x.cps.toList ≤ 900 ∧ readP x.cps.toList = none) ∨ ∃ t, TyOf K H v t ∧ PySem.W.kitOne K t (.type "str") = some false)) ∨ (y = 1 ∧ ∃ n, NestAt K H n v ∧ okN n = false)) ∧ ∀ H', Same H H' → Q (.bl true) H'
def spEither (K : PySem.W.Frag) : Sp := fun vs H Q _ => ∃ x : Str, vs = [.str x] ∧ x.length ≤ 3000 ∧ pts x.cps.toList ≤ 900 ∧ ∀ H', Same H H' → Q (.bl true) H'
def Foul (n : Nest) : Prop := (∀ o, valid o n = false) ∨ 60 < words n
theorem foul_knot {k : Bool} {a b : List Nest} {n : Nest} (h : Foul n) : Foul (.knot k (a ++ [n] ++ b)) := by
  rcases h with h | h
  · exact .inl fun o => by simp only [valid, validL_bad a b (h (some k)), Bool.and_false]
  · refine .inr ?_
    simp only [words, wordsL_app, wordsL]
    omega
theorem foul_ok {n : Nest} (h : Foul n) : okN n = false := by
  unfold okN
  rcases h with h | h
  · rw [h]; rfl
  · rw [decide_eq_false (by omega), Bool.and_false]
theorem foul_in {k : Bool} {a b : List Nest} {n : Nest} (h : Foul n) : okN (.knot k (a ++ [n] ++ b)) = false := foul_ok (foul_knot h)
theorem readP_ok {cs : List Nat} {n : Nest} (h : readP cs = some n) : okN n = true := by
  unfold readP at h
  split at h
  · split at h
    · cases h; assumption
    · cases h
  · cases h
theorem units14 {k : Nat} {A : Around} (r : Room k A) : A.units + 180 < PySem.cLine := by have := r.un; omega
def opn : Nat → List Nat
  | 0 => []
  | m + 1 => 40 :: 43 :: 40 :: 45 :: opn m
theorem opn_rep (m : Nat) : (repS "(+(-" m).cps.toList = opn m := by
  unfold repS
  rw [fold_rep, show (Str.ofString "(+(-").cps.toList = [40, 43, 40, 45] by decide +kernel]
  induction m with
  | zero => rfl
  | succ m ih =>
    rw [List.replicate_succ, List.flatten_cons, opn, ← ih]
    rfl
theorem opn_len : ∀ m : Nat, (opn m).length = 4 * m
  | 0 => rfl
  | m + 1 => by simp only [opn, List.length_cons, opn_len m]; omega
theorem opn_pts : ∀ m : Nat, pts (opn m) = 0
  | 0 => rfl
  | m + 1 => by
    have := opn_pts m
    simp only [opn]
    rw [pts_cons, pts_cons, pts_cons, pts_cons, this]
    decide
theorem opn_two (m : Nat) (ks : List Bool) (pss : List (List Nest)) : readG false (opn (m + 1)) ks pss = readG false (opn m) (false :: true :: ks) ([] :: [] :: pss) :=
  (read_more (step_open false true (40 :: 45 :: opn m) ks pss)).trans (read_more (step_open false false (opn m) (true :: ks) ([] :: pss)))
theorem opn_read : ∀ (m : Nat) (k : Bool) (ks : List Bool) (pss : List (List Nest)), readG false (opn m) (k :: ks) pss = none
  | 0, k, ks, pss => read_done (by simp [opn, stepR])
  | m + 1, k, ks, pss => (opn_two m (k :: ks) pss).trans (opn_read m _ _ _)
theorem opn_none (m : Nat) : readP (opn m) = none := by
  unfold readP
  cases m with
  | zero => rfl
  | succ m => rw [opn_two, opn_read]
end Tn
namespace L2
open PySem PySem.Spec PyProof.Rows
section
variable {X : Cx}
def tLinks : List (R2 × TE) → V → St → Hp → (Bool → Hp → Prop) → Prop
  | [], _, _, H, Q => Q true H
  | [(r, t)], x, σ, H, Q => t σ H fun y H1 => r x y H1 fun z H2 => ∃ k, z = .bl k ∧ Q k H2
  | (r, t) :: l :: ls, x, σ, H, Q => t σ H fun y H1 => r x y H1 fun z H2 => ∃ k, z = .bl k ∧ (if k = true then tLinks (l :: ls) y σ H2 Q else Q false H2)
inductive Links (X : Cx) : List CmpOp → List PySem.Expr → List (R2 × TE) → Prop
  | one {op : CmpOp} {r : R2} {b : PySem.Expr} {t : TE} : OpR X (compareOp op) r → PE X b t → Links X [op] [b] [(r, t)]
  | cons {op op' : CmpOp} {ops : List CmpOp} {r : R2} {b b' : PySem.Expr} {bs : List PySem.Expr} {t : TE} {l : R2 × TE} {ls : List (R2 × TE)} : OpR X (compareOp op) r → PE X b t → Links X (op' :: ops) (b' :: bs) (l :: ls) → Links X (op :: op' :: ops) (b :: b' :: bs) ((r, t) :: l :: ls)
def tChainN (ta : TE) (ls : List (R2 × TE)) : TT := fun σ H Q => ta σ H fun x H1 => tLinks ls x σ H1 Q
end
end L2
namespace L2
open PySem
theorem if_leaf {t : TT} {s1 s2 : TS} {D : Ends} {σ : St} {H : Hp} (A : Bool → Prop) (ht : ∀ Q : Bool → Hp → Prop, (∀ c, A c → Q c H) → t σ H Q) (h1 : A true → s1 D σ H) (h0 : A false → s2 D σ H) : tIfS t s1 s2 D σ H :=
  ht _ fun c hc => by
    cases c with
    | true => exact iteT (h1 hc)
    | false => exact iteF (h0 hc)
end L2
namespace L2
open PySem PySem.Spec PyProof PyProof.Rows HT
section
variable {prog : Program} {w : World} {A : Around} {E : Value → Shared → Prop} {s : Shared}
theorem getItem_tuple_all {t sl : Addr} {items : Array Value} {vl vu : Value} {lo hi : Option Int} {Q : Value → Shared → Prop} (ht : IsTup s.heap t items) (hs : s.heap.IsSliceOf sl vl vu .none) (pl : IsPart vl lo) (pu : IsPart vu hi)
    (h1 : sIx items.size 0 lo = 0) (h2 : sIx items.size items.size hi = items.size) (h : Q (.ref t) s) : wpAny (model prog w) A (getItem (.ref t) (.ref sl)) Q E s := by
  obtain ⟨os, hos, hcs, hds⟩ := id hs
  have hTs : s.TypeIs (.ref sl) "slice" := ⟨os, hos, hcs⟩
  unfold getItem
  try with_reducible refine wpAny_holding ?_
  first | refine wpAny_bind (wpAny_pure ?_) | skip
  refine wpAny_bind (wpAny_sequenceKey ht.typeIs (by decide) ?_)
  refine wpAny_bind (wpAny_callSpecial?_slot (name := Str.ofString "__getitem__") ht.typeIs PyProof.Rows.slot_tuple_getitem
    (wpAny_call_entry PyProof.Rows.slot_tuple_getitem ht.typeIs entry_tuple_getitem ?_ (args_tuple_getitem _ _)))
  show wpAny _ _ (Builtin.Tuple.tupleItemsOf (.ref t) >>= _) _ _ s
  refine wpAny_bind (tupleItemsOf_ ht ?_)
  refine wpAny_bind (wpAny_typeOf hTs ?_)
  rw [if_pos (by decide)]
  refine wpAny_bind (sliceApplied_gen hs pl pu ?_)
  show wpAny _ _ (if (((sIx items.size 0 lo : Nat) : Int) == 0 && (1 : Int) == 1 && (sIx items.size items.size hi - sIx items.size 0 lo) == items.size) = true then _ else _) _ _ s
  rw [if_pos (by rw [h1, h2]; simp)]
  unfold Builtin.Tuple.tupleIsExact
  refine wpAny_bind (wpAny_bind (wpAny_typeOf ht.typeIs (wpAny_pure ?_)))
  rw [if_pos (by decide)]
  exact wpAny_bind (wpAny_rule (wpAny_pure ⟨_, rfl, wpAny_pure h⟩))
end
section
variable {X : Cx}
def rSlA (K : PySem.W.Frag) : V → Option Int → Option Int → Hp → VK → Prop := fun x lo hi H Q => ∃ a xs, x = .ref a ∧ SqT K H a xs ∧ HT.sIx xs.length 0 lo = 0 ∧ HT.sIx xs.length xs.length hi = xs.length ∧ Q (.ref a) H
theorem sl_tupA : SlR X (rSlA X.K) := by
  intro pins s σ H x v vl vu lo hi sl Q I rx hs pl pu h
  obtain ⟨a, xs, rfl, hx, h1, h2, q⟩ := h
  cases rx
  obtain ⟨its, r, ht, hz⟩ := I.tuple hx
  have hlen : its.toArray.size = xs.length := by rw [List.size_toArray]; exact r.length.symm
  refine ⟨"tuple", _, PyProof.Rows.slot_tuple_getitem.lookup, ht.typeIs, ?_⟩
  exact getItem_tuple_all ht hs pl pu (by rw [hlen]; exact h1) (by rw [hlen]; exact h2) ⟨.ref a, H, I, rfl, q⟩
def rSlTA (K : PySem.W.Frag) : V → Option Int → Option Int → Hp → VK → Prop := fun x lo hi H Q => rSlT K x lo hi H Q ∨ rSlA K x lo hi H Q
theorem sl_tupTA : SlR X (rSlTA X.K) := sl_tup.or sl_tupA
theorem cut_any {K : PySem.W.Frag} {H : Hp} {a : Addr} {xs : List V} {lo hi : Option Int} {Q : VK} (hx : H a = some (.tup xs)) (q : ∀ p H', H' p = some (.tup (cutV xs lo hi)) → Same H H' → Q (.ref p) H') : rSlTA K (.ref a) lo hi H Q := by
  by_cases hw : HT.sIx xs.length 0 lo = 0 ∧ HT.sIx xs.length xs.length hi = xs.length
  · refine .inr ⟨a, xs, rfl, SqT.of hx, hw.1, hw.2, q a H ?_ (Same.refl _)⟩
    rw [hx]
    unfold cutV
    rw [hw.1, hw.2]
    simp
  · exact .inl ⟨a, xs, rfl, SqT.of hx, hw, fun p hp => q p _ upd_same (Tn.same_upd hp)⟩
theorem cat_any {K : PySem.W.Frag} {H : Hp} {a b : Addr} {xs ys : List V} {Q : VK} (hx : H a = some (.tup xs)) (hy : H b = some (.tup ys)) (hz : xs.length + ys.length ≤ sizeLine) (q : ∀ p H', H' p = some (.tup (xs ++ ys)) → Same H H' → Q (.ref p) H') : rCatA K (.ref a) (.ref b) H Q := by
  refine ⟨a, b, xs, ys, rfl, rfl, SqT.of hx, SqT.of hy, hz, ?_⟩
  by_cases h1 : xs = []
  · exact .inl ⟨h1, q b H (by rw [hy, h1]; rfl) (Same.refl _)⟩
  · by_cases h2 : ys = []
    · exact .inr (.inl ⟨h1, h2, q a H (by rw [hx, h2, List.append_nil]) (Same.refl _)⟩)
    · exact .inr (.inr ⟨h1, h2, fun p hp => q p _ upd_same (Tn.same_upd hp)⟩)
end
end L2
namespace L2
open PySem PySem.Spec PyProof.Rows
section
variable {X : Cx} {e : Expr} {te : TE} {st : Expr} {ts : TE} {pos p2 : Pos}
theorem vals_back {xs : List V} {us : List Value} (h : Vals xs us) : Vals xs.reverse us.reverse := by
  induction h with
  | nil => exact .nil
  | cons r _ ih =>
    rw [List.reverse_cons, List.reverse_cons]
    have go : ∀ {as : List V} {bs : List Value}, Vals as bs → ∀ {c : V} {d : Value}, RelV c d → Vals (as ++ [c]) (bs ++ [d]) := by
      intro as bs hab
      induction hab with
      | nil => intro c d hcd; exact .cons hcd .nil
      | cons r1 _ ih1 => intro c d hcd; exact .cons r1 (ih1 hcd)
    exact go ih r
def tRevL (K : PySem.W.Frag) (te ts : TE) : TE := fun σ H Q => te σ H fun x H1 => ts σ H1 fun k H2 => k = .int (-1) ∧ ∃ a xs, x = .ref a ∧ SqL K H2 a xs ∧ ∀ p, H2 p = none → Q (.ref p) (upd H2 p (.lst xs.reverse))
end
end L2
namespace Tn
open PySem L2
def blkWords (b : Int) (n : Nat) : List Int := (List.range n).map fun (i : Nat) => b + i
def backs (ord : List Int) (xss : List (List Int)) : List (List Int) := ord.map fun w => backF (xss.getD w.toNat [])
end Tn
namespace L2
open PySem PySem.Spec PyProof PyProof.Rows HT
section
variable {prog : Program} {w : World} {A : Around} {E : Value → Shared → Prop} {s : Shared}
theorem sliceApplied_rev {sl : Addr} {n : Nat} {t : Tok} {Q : Int × Int × Nat → Shared → Prop} (hs : s.heap.IsSliceOf sl .none .none (.int (-1) t)) (h : Q ((n : Int) - 1, -1, n) s) : wpAny (model prog w) A (Builtin.Slice.sliceApplied (.ref sl) (pure (n : Int))) Q E s := by
  obtain ⟨os, hos, hcs, hds⟩ := id hs
  unfold Builtin.Slice.sliceApplied Builtin.Slice.sliceFields
  refine wpAny_bind (wpAny_bind (wpAny_field hos hds (x := .none) rfl (wpAny_bind (wpAny_field hos hds (x := .none) rfl (wpAny_bind (wpAny_field hos hds (x := .int (-1) t) rfl (wpAny_pure ?_)))))))
  refine wpAny_bind (slicePart_ (.int (-1) t) ?_)
  show wpAny _ _ (if ((-1 : Int) == 0) = true then _ else _) _ _ s
  rw [if_neg (by decide)]
  refine wpAny_bind (slicePart_ .none (wpAny_bind (slicePart_ .none (wpAny_bind (wpAny_pure ?_)))))
  show wpAny _ _ (match Builtin.Slice.sliceAdjust none none (-1) (n : Int) with | (lo, hi) => pure (lo, (-1 : Int), Builtin.Slice.slicePlaces lo hi (-1))) _ _ s
  have e1 : Builtin.Slice.sliceAdjust none none (-1) (n : Int) = ((n : Int) - 1, -1) := rfl
  rw [e1]
  have e2 : Builtin.Slice.slicePlaces ((n : Int) - 1) (-1) (-1) = n := by
    unfold Builtin.Slice.slicePlaces
    rw [if_neg (by decide)]
    by_cases h : n = 0
    · subst h; rfl
    · rw [if_pos (by omega), show ((n : Int) - 1 - -1 - 1) / - -1 + 1 = n by rw [show (- -1 : Int) = 1 from rfl, Int.ediv_one]; omega]
      omega
  show wpAny _ _ (pure ((n : Int) - 1, (-1 : Int), Builtin.Slice.slicePlaces ((n : Int) - 1) (-1) (-1))) _ _ s
  rw [e2]
  exact wpAny_pure h
theorem pick_back (its : List Value) : ((List.range its.length).filterMap fun (k : Nat) => its.toArray[((its.length : Int) - 1 + (k : Int) * -1).toNat]?).toArray = its.reverse.toArray := by
  congr 1
  have gen : ∀ l : List Nat, (∀ k ∈ l, k < its.length) → (l.filterMap fun (k : Nat) => its.toArray[((its.length : Int) - 1 + (k : Int) * -1).toNat]?) = l.map fun k => (its[its.length - 1 - k]?).getD .none := fun l => by
    induction l with
    | nil => exact fun _ => rfl
    | cons k l ih =>
      intro h
      have hk := h k (.head _)
      rw [List.filterMap_cons_some (b := its[its.length - 1 - k]'(by omega)) (by
        rw [show ((its.length : Int) - 1 + (k : Int) * -1).toNat = its.length - 1 - k by omega]
        simp only [List.getElem?_toArray]
        exact List.getElem?_eq_getElem (by omega)), List.map_cons, ih fun j hj => h j (.tail _ hj), List.getElem?_eq_getElem (by omega)]
      rfl
  rw [gen _ fun k hk => List.mem_range.mp hk]
  refine List.ext_getElem (by simp) fun i h1 h2 => ?_
  simp at h1 ⊢
  rw [List.getElem?_eq_getElem (by omega)]
  rfl
theorem getItem_tuple_rev {tp sl : Addr} {its : List Value} {t : Tok} {Q : Value → Shared → Prop} (ht : IsTup s.heap tp its.toArray) (hs : s.heap.IsSliceOf sl .none .none (.int (-1) t)) (hsz : its.length ≤ sizeLine)
    (h : Q (.ref s.heap.objs.size) { s with heap := s.heap.push { cls := .type "tuple", data := .seq its.reverse.toArray } }) : wpAny (model prog w) A (getItem (.ref tp) (.ref sl)) Q E s := by
  have htake : sizeOk (.seq its.reverse.toArray) := by
    show its.reverse.toArray.size ≤ sizeLine
    rw [List.size_toArray, List.length_reverse]
    exact hsz
  obtain ⟨os, hos, hcs, hds⟩ := id hs
  have hTs : s.TypeIs (.ref sl) "slice" := ⟨os, hos, hcs⟩
  unfold getItem
  try with_reducible refine wpAny_holding ?_
  first | refine wpAny_bind (wpAny_pure ?_) | skip
  refine wpAny_bind (wpAny_sequenceKey ht.typeIs (by decide) ?_)
  refine wpAny_bind (wpAny_callSpecial?_slot (name := Str.ofString "__getitem__") ht.typeIs PyProof.Rows.slot_tuple_getitem
    (wpAny_call_entry PyProof.Rows.slot_tuple_getitem ht.typeIs entry_tuple_getitem ?_ (args_tuple_getitem _ _)))
  show wpAny _ _ (Builtin.Tuple.tupleItemsOf (.ref tp) >>= _) _ _ s
  refine wpAny_bind (tupleItemsOf_ ht ?_)
  refine wpAny_bind (wpAny_typeOf hTs ?_)
  rw [if_pos (by decide)]
  refine wpAny_bind (sliceApplied_rev (n := its.toArray.size) hs ?_)
  show wpAny _ _ (if (((its.toArray.size : Int) - 1) == 0 && (-1 : Int) == 1 && its.toArray.size == its.toArray.size) = true then _ else _) _ _ s
  rw [if_neg (by simp)]
  rw [List.size_toArray, pick_back]
  first
    | exact wpAny_bind (m := Builtin.Tuple.tupleExact _) (wpAny_newObj_type (wpAny_pure ⟨_, rfl, wpAny_pure h⟩) htake)
    | exact wpAny_bind (m := Builtin.Tuple.tupleExact _) (wpAny_newObj_type (wpAny_bind (wpAny_pure (wpAny_pure ⟨_, rfl, wpAny_pure h⟩))) htake)
    | exact wpAny_bind (wpAny_bind (m := Builtin.Tuple.tupleExact _) (wpAny_newObj_type (wpAny_pure (wpAny_pure ⟨_, rfl, wpAny_pure h⟩)) htake))
    | exact wpAny_bind (wpAny_bind (m := Builtin.Tuple.tupleExact _) (wpAny_newObj_type (wpAny_pure ⟨_, rfl, wpAny_pure h⟩) htake))
end
section
variable {X : Cx} {e : Expr} {te : TE} {st : Expr} {ts : TE} {pos p2 : Pos}
def tRevT (K : PySem.W.Frag) (te ts : TE) : TE := fun σ H Q => te σ H fun x H1 => ts σ H1 fun k H2 => k = .int (-1) ∧ ∃ a xs, x = .ref a ∧ SqT K H2 a xs ∧ ∀ p, H2 p = none → Q (.ref p) (upd H2 p (.tup xs.reverse))
theorem pe_revT (he : PE X e te) (hst : PE X st ts) : PE X (.Subscript e (.Slice none none (some st) p2) pos) (tRevT X.K te ts) := by
  intro pins s σ H Q I h
  refine Subscript_ (thn (he pins s σ H _ I h) fun v s1 ⟨x, H1, I1, r1, q1⟩ => ?_)
  refine wpAny_Slice ?_
  rw [evalPart_none]
  refine wpAny_pure ?_
  refine wpAny_pure ?_
  rw [evalPart_some]
  refine thn (hst pins s1 σ H1 _ I1 q1) fun vk s2 ⟨k, H2, I2, r2, q2⟩ => ?_
  obtain ⟨rfl, a, xs, rfl, hx, q⟩ := q2
  obtain ⟨t, rfl⟩ := r2
  cases r1
  have I4 : Inv X pins σ H2 { s2 with heap := s2.heap.push { cls := .type "slice", data := .fields #[.none, .none, .int (-1) t] } } := I2.kept (t' := s2.toks) fun b ob q => Heap.get?_push_of_some _ q
  obtain ⟨its, r, ht, hz⟩ := I4.tuple hx
  have hlen := r.length
  have hg : wpAny (model X.prog X.w) X.A (getItem (.ref a) (.ref s2.heap.objs.size)) (EP X pins σ Q) X.xe { s2 with heap := s2.heap.push { cls := .type "slice", data := .fields #[.none, .none, .int (-1) t] } } := by
    refine getItem_tuple_rev ht (Heap.IsSliceOf.new ..) (by omega) ?_
    refine ⟨.ref _, _, I4.laid (t' := s2.toks) (o := .tup xs.reverse) (fun b ob q => Heap.get?_push_of_some _ q) (Nat.le_refl _) ?_, rfl, q _ (I4.hok.fresh (Nat.le_refl _))⟩
    exact ⟨by rw [List.length_reverse]; exact hz, _, vals_back r, IsTupN.new _ _⟩
  show wpAny (model X.prog X.w) X.A (subscriptTail e (.Slice none none (some st) p2) (.ref a) (.ref s2.heap.objs.size)) (EP X pins σ Q) X.xe { s2 with heap := s2.heap.push { cls := .type "slice", data := .fields #[.none, .none, .int (-1) t] } }
  exact tail_any (ops := [.ref a, .ref s2.heap.objs.size]) ht.typeIs PyProof.Rows.slot_tuple_getitem.lookup hg (by with_unfolding_all rfl)
end
end L2
namespace Tn
open PySem L2
mutual
def LAt (H : Hp) : Nest → V → Prop
  | .word, v => v = .non
  | .knot _ ps, v => ∃ a vs, v = .ref a ∧ H a = some (.lst vs) ∧ 2 ≤ vs.length ∧ vs.length ≤ 1000 ∧ LsAt H ps vs
  | .bad, _ => False
def LsAt (H : Hp) : List Nest → List V → Prop
  | [], vs => vs = []
  | n :: r, vs => ∃ v vr, vs = v :: vr ∧ LAt H n v ∧ LsAt H r vr
end
mutual
def kindN : Bool → Nest → Nest
  | _, .word => .word
  | k, .knot _ ps => .knot k (kindL (!k) ps)
  | _, .bad => .bad
def kindL : Bool → List Nest → List Nest
  | _, [] => []
  | k, n :: r => kindN k n :: kindL k r
end
def spClosed (K : PySem.W.Frag) : Sp := fun vs H Q _ => ∃ (pl A B : Addr) (As : List Addr) (us xs : List V), vs = [.ref pl] ∧ H pl = some (.lst ((As ++ [B, A]).map V.ref)) ∧ H A = some (.lst xs) ∧ H B = some (.lst us) ∧ A ≠ B ∧ A ≠ pl ∧ B ≠ pl ∧ us.length ≤ 900 ∧ As.length ≤ 900 ∧
  (xs = [] → Q .non (upd H pl (.lst ((As ++ [B]).map V.ref)))) ∧ (∀ x, xs = [x] → Q .non (upd (upd H pl (.lst ((As ++ [B]).map V.ref))) B (.lst (us ++ [x])))) ∧ (2 ≤ xs.length → Q .non (upd (upd H pl (.lst ((As ++ [B]).map V.ref))) B (.lst (us ++ [.ref A]))))
def spLists (K : PySem.W.Frag) : Sp := fun vs H Q _ => ∃ (l : Addr) (cs : List Int), vs = [.ref l] ∧ SqL K H l (cs.map V.int) ∧ cs.length ≤ 100 ∧ ∀ (A : Addr) (ts : List Nest) (us : List V) (H' : Hp), H' A = some (.lst us) → LsAt H' ts us → wordsL ts ≤ cs.length → Same H H' → Q (.ref A) H'
def spKinded (K : PySem.W.Frag) (d : Nat) : Sp := fun vs H Q _ => ∃ (v : V) (n : Nest) (k : Bool), vs = [v, .str (kS k)] ∧ LAt H n v ∧ depthN n < d ∧ words n ≤ 100 ∧ ∀ (v' : V) (H' : Hp), NestAt K H' (kindN k n) v' → Same H H' → Q v' H'
def spNestL (K : PySem.W.Frag) : Sp := fun vs H Q _ => ∃ (l : Addr) (cs : List Int) (y : Int), vs = [.ref l, .int y] ∧ SqL K H l (cs.map V.int) ∧ cs.length ≤ 60 ∧ ∀ (n : Nest) (v : V) (H' : Hp), NestAt K H' n v → valid none n = true → words n ≤ 60 → (words n = 1 ∨ words n ≤ cs.length) → Same H H' → Q v H'
def spIsN (K : PySem.W.Frag) (d : Nat) : Sp := fun vs H Q _ => ∃ (v : V) (n : Nest) (o : Option Bool), vs = [v] ∧ NestAt K H n v ∧ valid o n = true ∧ depthN n < d ∧ ∀ H', Same H H' → Q (.bl true) H'
def refsO (st : List (Addr × List Nest)) : List V := (st.reverse.map fun x => V.ref x.1)
structure OpenAt (C H : Hp) (pl : Addr) (st : List (Addr × List Nest)) : Prop where
  sm : Same C H
  np : C pl = none
  hp : H pl = some (.lst (refsO st))
  nd : (st.map Prod.fst).Nodup
  npl : pl ∉ st.map Prod.fst
  pr : ∀ x ∈ st, C x.1 = none ∧ ∃ us, H x.1 = some (.lst us) ∧ LsAt C x.2 us
def wsum (st : List (Addr × List Nest)) : Nat := (st.map fun x => wordsL x.2).sum
section
variable {C H : Hp} {pl A B : Addr} {ts us : List Nest} {r st : List (Addr × List Nest)}
end
mutual
def backN : Nest → Nest
  | .word => .word
  | .knot k ps => .knot k (if k then backL ps else (backL ps).reverse)
  | .bad => .bad
def backL : List Nest → List Nest
  | [] => []
  | n :: r => backN n :: backL r
end
mutual
def mirN : Nest → Nest
  | .word => .word
  | .knot k ps => .knot (!k) (mirL ps)
  | .bad => .bad
def mirL : List Nest → List Nest
  | [] => []
  | n :: r => mirN n :: mirL r
end
def Inv2 (xs : List Int) (f : Int) (ys : List Int) (g : Int) : Prop := xs.length = ys.length ∧ ∀ (i : Nat) (w : Int), xs[i]? = some w → ∃ u : Nat, w = f + (u : Int) ∧ ys[u]? = some (g + (i : Int))
end Tn
namespace L2
open PySem PySem.Spec PyProof PyProof.Rows Tn
theorem DEq.mono {K : PySem.W.Frag} {H : Hp} : ∀ {d : Nat} {x y : V} {b : Bool}, DEq K H d x y b → ∀ {e : Nat}, d ≤ e → DEq K H e x y b := by
  intro d x y b h
  induction h with
  | flat hx hy => intro e _; exact .flat hx hy
  | same => intro e _; exact .same
  | tup hab ha hb he ih =>
    intro e h
    obtain ⟨e', rfl⟩ : ∃ e', e = e' + 1 := ⟨e - 1, by omega⟩
    exact .tup hab ha hb fun j x y h1 h2 => ih j x y h1 h2 (by omega)
  | tupStr ha =>
    intro e h
    obtain ⟨e', rfl⟩ : ∃ e', e = e' + 1 := ⟨e - 1, by omega⟩
    exact .tupStr ha
mutual
theorem nest_deq {K : PySem.W.Frag} {H : Hp} : ∀ {n : Nest} {o : Option Bool} {x y : V}, NestAt K H n x → NestAt K H n y → valid o n = true → DEq K H (2 * depthN n) x y true
  | .word, _, x, y, hx, hy, _ => by
    have hx : x = .non := hx
    have hy : y = .non := hy
    subst hx hy
    exact .flat rfl rfl
  | .knot k ps, _, x, y, ⟨a, b, vs, e, ea, eb, h2, h3, hp⟩, ⟨a', b', vs', e', ea', eb', h2', h3', hp'⟩, hv => by
    subst e e'
    have hvp : validL k ps = true := by simp only [valid, Bool.and_eq_true] at hv; exact hv.2
    rw [depthN, show 2 * (1 + depthL ps) = (2 * depthL ps + 1) + 1 by omega]
    by_cases haa : a = a'
    · subst haa; exact .same
    · refine deq_all (e := fun _ => true) haa (SqT.of ea) (SqT.of ea') rfl (fun j x y h1 h2 => ?_) (by simp)
      match j, h1, h2 with
      | 0, h1, h2 =>
        have h1 : x = .str (kS k) := by simpa using h1.symm
        have h2 : y = .str (kS k) := by simpa using h2.symm
        subst h1 h2
        have := DEq.flat (K := K) (H := H) (d := 2 * depthL ps + 1) (x := .str (kS k)) (y := .str (kS k)) rfl rfl
        have e1 : eqV (.str (kS k)) (.str (kS k)) = true := by simp [eqV]
        rwa [e1] at this
      | 1, h1, h2 =>
        have h1 : x = .ref b := by simpa using h1.symm
        have h2 : y = .ref b' := by simpa using h2.symm
        subst h1 h2
        by_cases hbb : b = b'
        · subst hbb; exact .same
        · have l1 := hp.len
          have l2 := hp'.len
          exact deq_all (e := fun _ => true) hbb (SqT.of eb) (SqT.of eb') (by omega) (fun j x y h1 h2 => nests_deq hp hp' hvp h1 h2) (by simp)
      | j + 2, h1, _ => simp at h1
  | .bad, _, _, _, _, _, h => by simp [valid] at h
theorem nests_deq {K : PySem.W.Frag} {H : Hp} : ∀ {ps : List Nest} {k : Bool} {xs ys : List V}, NestsAt K H ps xs → NestsAt K H ps ys → validL k ps = true → ∀ {j : Nat} {x y : V}, xs[j]? = some x → ys[j]? = some y → DEq K H (2 * depthL ps) x y true
  | [], _, xs, _, hx, _, _, j, x, y, h1, _ => by have hx : xs = [] := hx; subst hx; simp at h1
  | n :: r, k, _, _, ⟨v, vr, e, h1, h2⟩, ⟨v', vr', e', h1', h2'⟩, hv, j, x, y, hj, hj' => by
    subst e e'
    simp only [validL, Bool.and_eq_true] at hv
    rw [depthL]
    match j, hj, hj' with
    | 0, hj, hj' =>
      have a1 : v = x := by simpa using hj
      have a2 : v' = y := by simpa using hj'
      subst a1 a2
      exact (nest_deq h1 h1' hv.1).mono (by have := Nat.le_max_left (depthN n) (depthL r); exact Nat.mul_le_mul_left 2 this)
    | j + 1, hj, hj' =>
      exact (nests_deq h2 h2' hv.2 (j := j) (by simpa using hj) (by simpa using hj')).mono (by have := Nat.le_max_right (depthN n) (depthL r); exact Nat.mul_le_mul_left 2 this)
end
def rNeN (K : PySem.W.Frag) : R2 := fun x y H Q => ∃ (n : Nest) (o : Option Bool), NestAt K H n x ∧ NestAt K H n y ∧ valid o n = true ∧ depthN n ≤ 60 ∧ Q (.bl false) H
theorem op_neN {X : Cx} (hu : X.A.units + 180 < cLine) : OpR X (compareOp .NotEq) (rNeN X.K) := by
  intro pins s σ H x y v u Q I rx ry h
  obtain ⟨n, o, hx, hy, hv, hd, q⟩ := h
  cases n with
  | bad => simp [valid] at hv
  | word =>
    have hx : x = .non := hx
    have hy : y = .non := hy
    subst hx hy
    cases rx
    cases ry
    exact SeqAt.RcNeAt.none_none X.prog X.w X.xe _ ⟨.bl false, H, I, rfl, q⟩
  | knot k ps =>
    have hd2 := nest_deq hx hy hv
    obtain ⟨a, b, vs, rfl, ea, eb, _, _, hp⟩ := hx
    obtain ⟨a', b', vs', rfl, ea', eb', _, _, hp'⟩ := hy
    cases rx
    cases ry
    obtain ⟨its, r1, p1, _⟩ := I.tuple (SqT.of ea)
    obtain ⟨its2, r2, p2, _⟩ := I.tuple (SqT.of ea')
    have l1 := r1.length
    have l2 := r2.length
    have hi := in1_units X.A
    have hvp : validL k ps = true := by simp only [valid, Bool.and_eq_true] at hv; exact hv.2
    rw [depthN] at hd
    have key : ∀ (j : Nat) (x y : V), ([V.str (kS k), V.ref b] : List V)[j]? = some x → ([V.str (kS k), V.ref b'] : List V)[j]? = some y → DEq X.K H 140 x y true := fun j x y h1 h2 => by
      match j, h1, h2 with
      | 0, h1, h2 =>
        have h1 : x = .str (kS k) := by simpa using h1.symm
        have h2 : y = .str (kS k) := by simpa using h2.symm
        subst h1 h2
        have := DEq.flat (K := X.K) (H := H) (d := 140) (x := .str (kS k)) (y := .str (kS k)) rfl rfl
        have e1 : eqV (.str (kS k)) (.str (kS k)) = true := by simp [eqV]
        rwa [e1] at this
      | 1, h1, h2 =>
        have h1 : x = .ref b := by simpa using h1.symm
        have h2 : y = .ref b' := by simpa using h2.symm
        subst h1 h2
        by_cases hbb : b = b'
        · subst hbb; exact .same
        · have l1 := hp.len
          have l2 := hp'.len
          exact (deq_all (e := fun _ => true) hbb (SqT.of eb) (SqT.of eb') (by omega) (fun j x y h1 h2 => nests_deq hp hp' hvp h1 h2) (by simp)).mono (by omega)
      | j + 2, h1, _ => simp at h1
    refine SeqAt.RcNeAt.tuples (e := fun _ => true) (show s.heap.IsTuple a its.toArray from p1) (show s.heap.IsTuple a' its2.toArray from p2) (by omega) (fun j h1 h2 => ?_) X.prog X.w X.xe _ ⟨.bl false, H, I, ?_, q⟩
    · have h1' : j < ([V.str (kS k), V.ref b] : List V).length := by rw [l1]; simpa using h1
      have h2' : j < ([V.str (kS k), V.ref b'] : List V).length := by rw [l2]; simpa using h2
      obtain ⟨v1, e1, rv1⟩ := r1.get (i := j) (x := ([V.str (kS k), V.ref b] : List V)[j]) (by simp)
      obtain ⟨v2, e2, rv2⟩ := r2.get (i := j) (x := ([V.str (kS k), V.ref b'] : List V)[j]) (by simp)
      have i1 : its.toArray[j] = v1 := by
        have := (List.getElem?_eq_some_iff.mp e1).2
        simpa using this
      have i2 : its2.toArray[j] = v2 := by
        have := (List.getElem?_eq_some_iff.mp e2).2
        simpa using this
      rw [i1, i2]
      exact deq_at I (key j _ _ (by simp) (by simp)) rv1 rv2 (by omega)
    · show Value.bool _ = Value.bool false
      have : its.length = its2.length := by rw [← l1, ← l2]; rfl
      simp [this]
end L2
namespace L2
open Tn PySem PySem.Spec PyProof.Rows
def rEqN (K : PySem.W.Frag) : R2 := fun x y H Q => ∃ (n : Nest) (o : Option Bool), NestAt K H n x ∧ NestAt K H n y ∧ valid o n = true ∧ depthN n ≤ 60 ∧ Q (.bl true) H
theorem op_eqN {X : Cx} (hu : X.A.units + 180 < cLine) : OpR X (compareOp .Eq) (rEqN X.K) := by
  intro pins s σ H x y v u Q I rx ry h
  obtain ⟨n, o, hx, hy, hv, hd, q⟩ := h
  cases n with
  | bad => simp [valid] at hv
  | word =>
    obtain rfl : x = .non := hx
    obtain rfl : y = .non := hy
    cases rx
    cases ry
    exact SeqAt.RcAt.none_none X.prog X.w X.xe _ ⟨.bl true, H, I, rfl, q⟩
  | knot k ps =>
    obtain ⟨a, b, vs, rfl, ea, eb, _, _, hp⟩ := hx
    obtain ⟨a', b', vs', rfl, ea', eb', _, _, hp'⟩ := hy
    cases rx
    cases ry
    obtain ⟨its, r1, p1, _⟩ := I.tuple (SqT.of ea)
    obtain ⟨its2, r2, p2, _⟩ := I.tuple (SqT.of ea')
    have l1 := r1.length
    have l2 := r2.length
    have hi := in1_units X.A
    have hvp : validL k ps = true := by simp only [valid, Bool.and_eq_true] at hv; exact hv.2
    rw [depthN] at hd
    have lp := hp.len
    have lp' := hp'.len
    have both : ∀ (j : Nat) (x y : V), ([V.str (kS k), V.ref b] : List V)[j]? = some x → ([V.str (kS k), V.ref b'] : List V)[j]? = some y → DEq X.K H 140 x y true
      | 0, x, y, h1, h2 => by
        obtain rfl : V.str (kS k) = x := by simpa using h1
        obtain rfl : V.str (kS k) = y := by simpa using h2
        have z := DEq.flat (K := X.K) (H := H) (d := 140) (x := .str (kS k)) (y := .str (kS k)) rfl rfl
        rwa [show eqV (.str (kS k)) (.str (kS k)) = true by simp [eqV]] at z
      | 1, x, y, h1, h2 => by
        obtain rfl : V.ref b = x := by simpa using h1
        obtain rfl : V.ref b' = y := by simpa using h2
        by_cases hbb : b = b'
        · subst hbb; exact .same
        · exact (deq_all (e := fun _ => true) hbb (SqT.of eb) (SqT.of eb') (by omega) (fun j x y h1 h2 => nests_deq hp hp' hvp h1 h2) (by simp)).mono (by omega)
      | j + 2, x, y, h1, _ => by simp at h1
    refine SeqAt.eq_tupleAt (e := fun _ => true) (show s.heap.IsTuple a its.toArray from p1) (show s.heap.IsTuple a' its2.toArray from p2) (by omega) (fun j h1 h2 => ?_) (fin_bl I q (by rw [List.size_toArray, List.size_toArray, ← l1, ← l2]; rfl))
    obtain ⟨v1, e1, rv1⟩ := r1.get (i := j) (x := ([V.str (kS k), V.ref b] : List V)[j]'(by rw [l1]; simpa using h1)) (by simp)
    obtain ⟨v2, e2, rv2⟩ := r2.get (i := j) (x := ([V.str (kS k), V.ref b'] : List V)[j]'(by rw [l2]; simpa using h2)) (by simp)
    rw [show its.toArray[j] = v1 by simpa using (List.getElem?_eq_some_iff.mp e1).2, show its2.toArray[j] = v2 by simpa using (List.getElem?_eq_some_iff.mp e2).2]
    exact deq_at I (both j _ _ (by simp) (by simp)) rv1 rv2 (by omega)
end L2
namespace Tn
open L2 PySem
theorem NestAt.notStr {K : PySem.W.Frag} {H : Hp} {n : Nest} {o : Option Bool} {v : V} (h : NestAt K H n v) (hv : valid o n = true) : ∃ t, TyOf K H v t ∧ PySem.W.kitOne K t (.type "str") = some false := by
  cases n with
  | word =>
    obtain rfl : v = .non := h
    exact ⟨_, .non, kit_not K rfl rfl (by decide +kernel)⟩
  | bad => exact absurd hv (by simp [valid])
  | knot k ps =>
    obtain ⟨a', b', us, rfl, ea, _⟩ := h
    exact ⟨_, .tup ea, kit_not K rfl rfl (by decide +kernel)⟩
end Tn
namespace K14
open PySem L2 Tn
def top (i : Nat) : Stmt := PySem.Challenge.pw_turnnest_k14_whole_nests_written.main.body.getD i (.Pass ⟨0, 0, 0, 0⟩)
abbrev s_is_nest : Stmt := top 12
abbrev s_is_knot : Stmt := top 13
abbrev s_must_be_nest : Stmt := top 14
abbrev s_show_nest : Stmt := top 16
abbrev s_written : Stmt := top 17
abbrev s_read_nest : Stmt := top 18
abbrev s_only_nest : Stmt := top 19
abbrev s_law_stir : Stmt := top 21
abbrev s_law_cell : Stmt := top 22
abbrev s_law_more : Stmt := top 23
abbrev s_law_lack : Stmt := top 24
abbrev s_law_nest : Stmt := top 25
abbrev s_law_text : Stmt := top 26
abbrev s_law_closed : Stmt := top 27
abbrev s_law_read : Stmt := top 28
abbrev s_law_spoilt : Stmt := top 29
abbrev s_law_small : Stmt := top 30
abbrev s_law_refused : Stmt := top 31
abbrev s_law_none : Stmt := top 32
abbrev s_law_either : Stmt := top 33
abbrev s_law : Stmt := top 34
structure Txt (mg : Str → Option Value) : Prop where
  b : Blt mg
  str : mg "str" = none
  max : mg "max" = none
  ve : mg "ValueError" = none
section
variable {P : Program} {w : World} {K : PySem.W.Frag} {mg : Str → Option Value} {base : Heap}
abbrev sIsNest : Stmt := s_is_nest
abbrev sKnot : Stmt := s_is_knot
abbrev sMust : Stmt := s_must_be_nest
abbrev sStir : Stmt := s_law_stir
abbrev sCell : Stmt := s_law_cell
abbrev sMore : Stmt := s_law_more
abbrev sLack : Stmt := s_law_lack
abbrev sNest : Stmt := s_law_nest
theorem scKnot : FnScope ["thing"] ["thing"] (defScope sKnot) := ⟨rfl, rfl, rfl, by decide +kernel, rfl, by decide +kernel, by decide +kernel⟩
theorem ok_knot {f : Addr} {fd : FuncData} (F : Fun K "is_knot" "is_knot" sKnot f fd) (T : Txt mg) : FnOk P w K mg base CX0 1 f fd ["thing"] (spKnot K) := by
  refine F.ok scKnot (fun vs H Q E h => ?_) (fun cdv A outer s H vs Q E hr h => ?_)
  · obtain ⟨v, rfl, _⟩ := h; rfl
  · obtain ⟨v, rfl, h⟩ := h
    refine ⟨_, (pss_cons (ps_if (pw_or (pt_not (pt_val (pe_callB call_isi (by rfl) T.b.isi boot_isi (pa_cons (pv 0) (pa_cons (pe_bltn (v := .ty "tuple") (by rfl) T.b.tup boot_ty_tuple rfl) pa_nil))))) (pw_or1 (pt_cmpR op_ne (pe_callB call_len_seq (by rfl) T.b.len PySem.boot_len (pa_cons (pv 0) pa_nil)) pe_int (nomark _)))).pt (pss_one (ps_ret pe_bl)) pss_nil)
      (pss_cons (ps_if (pw_or (pt_not (pt_val (pe_callB call_isi (by rfl) T.b.isi boot_isi (pa_cons (pe_ix ix_tup (pv 0) pe_int (fun _ _ => rfl)) (pa_cons (pe_bltn (v := .ty "str") (by rfl) T.str boot_ty_str rfl) pa_nil))))) (pw_or1 (pt_cmpR op_notIn_seq (pe_ix ix_tup (pv 0) pe_int (fun _ _ => rfl)) (pe_tup (pa_cons pe_str (pa_cons pe_str pa_nil))) rfl))).pt (pss_one (ps_ret pe_bl)) pss_nil)
      (pss_one (ps_ret (pe_and (pe_callB call_isi (by rfl) T.b.isi boot_isi (pa_cons (pe_ix ix_tup (pv 0) pe_int (fun _ _ => rfl)) (pa_cons (pe_bltn (v := .ty "tuple") (by rfl) T.b.tup boot_ty_tuple rfl) pa_nil))) (pe_one (pe_cmpR op_ge (pe_callB call_len_seq (by rfl) T.b.len PySem.boot_len (pa_cons (pe_ix ix_tup (pv 0) pe_int (fun _ _ => rfl)) pa_nil)) pe_int (nomark _)))))))), ?_⟩
    rcases h with ⟨h, q⟩ | ⟨a, b, k, us, rfl, e1, e2, h2, hz, q⟩
    · cases h with
      | ty t k => exact ⟨_, rfl, _, _, _, _, rfl, t, k, _, rfl, iteT (iteT (q _ (Same.refl _)))⟩
      | @len a xs e k =>
        refine ⟨_, rfl, _, _, _, _, rfl, .tup e, kit_same _ _, _, rfl, iteF ?_⟩
        refine ⟨_, rfl, a, _, rfl, .inr (SqT.of e), rfl, _, rfl, ?_⟩
        rw [decide_eq_false (by intro z; have z : ((xs.length : Nat) : Int) = 2 := V.int.inj z; omega)]
        exact iteT (q _ (Same.refl _))
      | @notStr a x y t e ty k _ =>
        refine ⟨_, rfl, _, _, _, _, rfl, .tup e, kit_same _ _, _, rfl, iteF ?_⟩
        refine ⟨_, rfl, a, _, rfl, .inr (SqT.of e), rfl, _, rfl, iteF ?_⟩
        exact ⟨_, rfl, a, _, 0, _, rfl, rfl, SqT.of e, rfl, _, _, _, _, rfl, ty, k, _, rfl, iteT (iteT (q _ (Same.refl _)))⟩
      | @kind a z y e n1 n2 _ =>
        refine ⟨_, rfl, _, _, _, _, rfl, .tup e, kit_same _ _, _, rfl, iteF ?_⟩
        refine ⟨_, rfl, a, _, rfl, .inr (SqT.of e), rfl, _, rfl, iteF ?_⟩
        refine ⟨_, rfl, a, _, 0, _, rfl, rfl, SqT.of e, rfl, _, _, _, _, rfl, .str z, kit_same _ _, _, rfl, iteF ?_⟩
        refine ⟨_, rfl, a, _, 0, _, rfl, rfl, SqT.of e, rfl, (by show 2 ≤ sizeLine; decide), fun p hp => ⟨p, _, rfl, .inr (SqT.of upd_same), rfl, rfl, _, rfl, ?_⟩⟩
        rw [kS_notIn n1 n2]
        exact iteT (q _ (same_upd hp))
      | @notTup a k y t e ty kt =>
        refine ⟨_, rfl, _, _, _, _, rfl, .tup e, kit_same _ _, _, rfl, iteF ?_⟩
        refine ⟨_, rfl, a, _, rfl, .inr (SqT.of e), rfl, _, rfl, iteF ?_⟩
        refine ⟨_, rfl, a, _, 0, _, rfl, rfl, SqT.of e, rfl, _, _, _, _, rfl, .str _, kit_same _ _, _, rfl, iteF ?_⟩
        refine ⟨_, rfl, a, _, 0, _, rfl, rfl, SqT.of e, rfl, (by show 2 ≤ sizeLine; decide), fun p hp => ⟨p, _, rfl, .inr (SqT.of upd_same), rfl, rfl, _, rfl, ?_⟩⟩
        rw [kS_in]
        refine iteF ?_
        have e' : (upd H p (.tup [V.str "+", V.str "-"])) a = some (.tup [V.str (kS k), y]) := same_upd hp _ _ e
        exact ⟨_, rfl, a, _, 1, _, rfl, rfl, SqT.of e', rfl, _, _, _, _, rfl, Same.ty (same_upd hp) ty, kt, _, rfl, iteF (q _ (same_upd hp))⟩
      | @few a b k xs e1 e2 hlt =>
        refine ⟨_, rfl, _, _, _, _, rfl, .tup e1, kit_same _ _, _, rfl, iteF ?_⟩
        refine ⟨_, rfl, a, _, rfl, .inr (SqT.of e1), rfl, _, rfl, iteF ?_⟩
        refine ⟨_, rfl, a, _, 0, _, rfl, rfl, SqT.of e1, rfl, _, _, _, _, rfl, .str _, kit_same _ _, _, rfl, iteF ?_⟩
        refine ⟨_, rfl, a, _, 0, _, rfl, rfl, SqT.of e1, rfl, (by show 2 ≤ sizeLine; decide), fun p hp => ⟨p, _, rfl, .inr (SqT.of upd_same), rfl, rfl, _, rfl, ?_⟩⟩
        rw [kS_in]
        refine iteF ?_
        have e1' : (upd H p (.tup [V.str "+", V.str "-"])) a = some (.tup [V.str (kS k), .ref b]) := same_upd hp _ _ e1
        have e2' : (upd H p (.tup [V.str "+", V.str "-"])) b = some (.tup xs) := same_upd hp _ _ e2
        refine ⟨_, rfl, a, _, 1, _, rfl, rfl, SqT.of e1', rfl, _, _, _, _, rfl, .tup e2', kit_same _ _, _, rfl, iteT ?_⟩
        refine ⟨_, rfl, a, _, 1, _, rfl, rfl, SqT.of e1', rfl, b, _, rfl, .inr (SqT.of e2'), _, _, rfl, rfl, ?_⟩
        show Q (V.bl (decide ((2 : Int) ≤ (xs.length : Int)))) _
        rw [decide_eq_false (by omega)]
        exact q _ (same_upd hp)
    · refine ⟨_, rfl, _, _, _, _, rfl, .tup e1, kit_same _ _, _, rfl, iteF ?_⟩
      refine ⟨_, rfl, a, _, rfl, .inr (SqT.of e1), rfl, _, rfl, iteF ?_⟩
      refine ⟨_, rfl, a, _, 0, _, rfl, rfl, SqT.of e1, rfl, _, _, _, _, rfl, .str _, kit_same _ _, _, rfl, iteF ?_⟩
      refine ⟨_, rfl, a, _, 0, _, rfl, rfl, SqT.of e1, rfl, (by show 2 ≤ sizeLine; decide), fun p hp => ⟨p, _, rfl, .inr (SqT.of upd_same), rfl, rfl, _, rfl, ?_⟩⟩
      rw [kS_in]
      refine iteF ?_
      have e1' : (upd H p (.tup [V.str "+", V.str "-"])) a = some (.tup [V.str (kS k), .ref b]) := same_upd hp _ _ e1
      have e2' : (upd H p (.tup [V.str "+", V.str "-"])) b = some (.tup us) := same_upd hp _ _ e2
      refine ⟨_, rfl, a, _, 1, _, rfl, rfl, SqT.of e1', rfl, _, _, _, _, rfl, .tup e2', kit_same _ _, _, rfl, iteT ?_⟩
      refine ⟨_, rfl, a, _, 1, _, rfl, rfl, SqT.of e1', rfl, b, _, rfl, .inr (SqT.of e2'), _, _, rfl, rfl, ?_⟩
      show Q (V.bl (decide ((2 : Int) ≤ (us.length : Int)))) _
      rw [decide_eq_true (by omega)]
      exact q _ (same_upd hp)
def isnComp (s : Stmt) : Scope := match (defBody s).getD 2 (.Pass ⟨0, 0, 0, 0⟩) with
  | .While _ [_, _, .If _ _ [.If _ [.Expr (.Call _ [.ListComp _ _ sc _] _ _) _] _ _] _] _ _ => sc
  | _ => defScope s
abbrev nsIsNest : List Str := ["thing", "words", "waiting", "entry"]
theorem scIsNest : FnScope nsIsNest ["thing"] (defScope sIsNest) := ⟨rfl, rfl, rfl, by decide +kernel, rfl, by decide +kernel, by decide +kernel⟩
theorem csIsNest : CScope (defScope sIsNest) (isnComp sIsNest) "part" ["part", "entry"] nsIsNest [3] := cs_of (by decide +kernel)
theorem ok_isnest {f fK : Addr} {fd fdK : FuncData} {mw : Tok} (F : Fun K "is_nest" "is_nest" sIsNest f fd) (T : Txt mg) (GK : FnOk P w K mg base CX0 1 fK fdK ["thing"] (spKnot K)) (kK : PySem.W.keepIn K (.ref fK) = true) (mK : mg "is_knot" = some (.ref fK)) (bK : Binds K fdK ["thing"] [])
    (mM : mg "MOST_WORDS" = some (.int 60 mw)) : FnOk P w K mg base CX0 2 f fd ["thing"] (spIsNest K) := by
  refine F.ok scIsNest (fun vs H Q E h => ?_) (fun cdv A outer s H vs Q E hr h => ?_)
  · obtain ⟨v, n, rfl, _⟩ := h; rfl
  · obtain ⟨v, n, rfl, hN, q⟩ := h
    refine ⟨_, (pss_cons (ps_set (i := 1) scIsNest.nd rfl (Or.inl rfl) pe_int)
      (pss_cons (ps_set (i := 2) scIsNest.nd rfl (Or.inl rfl) (pe_lst (pa_cons (pe_tup (pa_cons (pv 0) (pa_cons pe_str pa_nil))) pa_nil)))
      (pss_cons (ps_while PassesOwn.never (pt_truth (pv 2) (fun _ => rfl))
        (pss_cons (ps_if (pt_cmpR op_gt (pe_op op_add (pv 1) (pe_callB call_len_seq (by rfl) T.b.len PySem.boot_len (pa_cons (pv 2) pa_nil))) (pe_glob (v := .int 60) (by rfl) mM ⟨mw, rfl⟩) (nomark _)) (pss_one (ps_ret pe_bl)) pss_nil)
      (pss_cons (ps_set (i := 3) scIsNest.nd rfl (Or.inr rfl) (pe_bm0 PySem.F.plainAttrs_list PySem.F.slot_list_pop PySem.F.type_list_pop mt_pop (pv 2)))
      (pss_one (ps_if (pt_cmpR op_isN (pe_ix ix_tup (pv 3) pe_int (fun _ _ => rfl)) pe_non (nomark _)) (pss_one (ps_aug (i := 1) scIsNest.nd rfl (Or.inl rfl) pe_int ip_add))
              (pss_one (ps_if (pw_and (pt_val (pe_call GK hr (by rfl) mK kK bK .nil pass0 (pa_cons (pe_ix ix_tup (pv 3) pe_int (fun _ _ => rfl)) pa_nil))) (pw_and1 (pt_cmpR op_ne (pe_ix ix_tup (pe_ix ix_tup (pv 3) pe_int (fun _ _ => rfl)) pe_int (fun _ _ => rfl)) (pe_ix ix_tup (pv 3) pe_int (fun _ _ => rfl)) (nomark _)))).pt
                (pss_one (ps_expr (pe_bm PySem.F.plainAttrs_list PySem.F.slot_list_extend PySem.F.type_list_extend mt_extend (pv 2) (pa_cons (pe_comp rfl csIsNest rfl (pi_tup (pe_ix ix_tup (pe_ix ix_tup (pv 3) pe_int (fun _ _ => rfl)) pe_int (fun _ _ => rfl))) (fun cl C fp s H => pg_name (i := 0) csIsNest.nd rfl (Or.inl rfl)) (fun cl C fp s H => pts_nil)
                  (fun cl C fp s H => pe_tup (pa_cons (pv 0) (pa_cons (pe_ix (r := rIxT K) ix_tup (pe_ix (r := rIxT K) ix_tup (pv 1) pe_int (fun _ _ => rfl)) pe_int (fun _ _ => rfl)) pa_nil)))) pa_nil))))
                (pss_one (ps_ret pe_bl)))))))))
      (pss_one (ps_ret pe_bl))))), ?_⟩
    refine ⟨_, rfl, (by show 2 ≤ sizeLine; decide), fun t0 ht0 => ⟨(by show 1 ≤ sizeLine; decide), fun wl hwl => ?_⟩⟩
    have hw0 : H wl = none := (same_upd ht0).free hwl
    have sU : ∀ (G : Hp) (o : HO), Same H G → Same H (upd G wl o) := fun G o h b ob e => by rw [upd_ne (ne_of_none e hw0)]; exact h b ob e
    refine ⟨fun m σ H' => ∃ (st : List (Nest × Option Bool)) (ts : List Addr) (wd : Nat) (v3 : Option V), σ = [some v, some (.int (wd : Int)), some (.ref wl), v3] ∧ Same H H' ∧ H' wl = some (.lst (ts.reverse.map V.ref)) ∧ WaitAt K H' st ts ∧ m = waitS st ∧ wd ≤ 60 ∧ okN n = (waitOk st && decide (wd + waitW st ≤ 60)),
      ⟨waitS [(n, none)], [(n, none)], [t0], 0, none, rfl, sU _ _ (same_upd ht0), upd_same, ⟨t0, [], v, rfl, ?_, ?_, rfl⟩, rfl, by decide, ?_⟩, ?_⟩
    · rw [upd_ne (ne_of_none upd_same hwl)]; exact upd_same
    · exact (hN.mono (same_upd ht0)).mono (same_upd hwl)
    · unfold okN waitOk waitW
      simp
    rintro m σ H' ⟨st, ts, wd, v3, rfl, sx, eW, hWt, rfl, hwd, hok⟩
    have hlen := hWt.len
    have hww := hWt.words
    cases st with
    | nil =>
      have e0 : ts = [] := hWt
      subst e0
      refine ⟨_, rfl, false, .inl ⟨_, SqL.of eW, rfl⟩, iteF ?_⟩
      have : okN n = true := by
        rw [hok]
        show (true && decide (wd + 0 ≤ 60)) = true
        simp
        omega
      rw [this] at q
      exact q _ sx
    | cons p r =>
      obtain ⟨t, tr, u, e0, h1, h2, h3⟩ := hWt
      subst e0
      have hrl : (tr.reverse.map V.ref ++ [V.ref t]) = ((t :: tr).reverse.map V.ref) := by simp
      rw [← hrl] at eW
      have hlr := h3.len
      refine ⟨_, rfl, true, .inl ⟨_, SqL.of eW, (by simp)⟩, iteT ?_⟩
      refine ⟨fun σ' Hx => ∃ (st : List (Nest × Option Bool)) (ts : List Addr) (wd : Nat) (v3 : Option V), σ' = [some v, some (.int (wd : Int)), some (.ref wl), v3] ∧ Same H Hx ∧ Hx wl = some (.lst (ts.reverse.map V.ref)) ∧ WaitAt K Hx st ts ∧ waitS st < waitS (p :: r) ∧ wd ≤ 60 ∧ okN n = (waitOk st && decide (wd + waitW st ≤ 60)), ?_, ?_⟩
      · rintro σ' Hx ⟨st, ts, wd', v3', e, a1, a2, a3, a4, a5, a6⟩
        exact ⟨_, a4, st, ts, wd', v3', e, a1, a2, a3, rfl, a5, a6⟩
      have hcount : (tr.reverse.map V.ref ++ [V.ref t]).length = (p :: r).length := by simp; omega
      refine ⟨_, rfl, _, rfl, wl, _, rfl, .inl (SqL.of eW), _, _, rfl, rfl, _, _, rfl, rfl, _, rfl, ?_⟩
      by_cases hbig : 60 < (wd : Int) + ((tr.reverse.map V.ref ++ [V.ref t]).length : Int)
      · rw [decide_eq_true hbig]
        refine iteT ?_
        have : okN n = false := by
          rw [hok]
          have : ¬ (wd + waitW (p :: r) ≤ 60) := by omega
          simp [this]
        rw [this] at q
        exact q _ sx
      rw [decide_eq_false hbig]
      refine iteF ?_
      refine ⟨_, rfl, .inl ⟨rfl, _, SqL.of eW⟩, wl, _, V.ref t, rfl, rfl, eW, (by simp), ?_⟩
      rw [List.dropLast_concat]
      have eW1 : (upd H' wl (.lst (tr.reverse.map V.ref))) wl = some (.lst (tr.reverse.map V.ref)) := upd_same
      have s1 := sU _ (.lst (tr.reverse.map V.ref)) sx
      have h1' : (upd H' wl (.lst (tr.reverse.map V.ref))) t = some (.tup [u, .str (aS p.2)]) := by rw [upd_ne (ne_of h1 eW (by intro z; cases z))]; exact h1
      have h2' := NestAt.updL (vs := tr.reverse.map V.ref) eW h2
      have h3' := WaitAt.updL (vs := tr.reverse.map V.ref) eW h3
      generalize upd H' wl (.lst (tr.reverse.map V.ref)) = H1 at eW1 s1 h1' h2' h3' ⊢
      have hsz : waitS (p :: r) = sizeN p.1 + waitS r := by simp [waitS]
      have hwz : waitW (p :: r) = words p.1 + waitW r := by simp [waitW]
      have hoz : waitOk (p :: r) = (valid p.2 p.1 && waitOk r) := by simp [waitOk]
      rw [hwz, hoz] at hok
      have hsp := size_pos p.1
      simp only [List.length_cons] at hcount
      have hlw := h3'.words
      obtain ⟨pn, po⟩ := p
      cases pn with
      | word =>
        have hu : u = .non := h2'
        subst hu
        refine ⟨_, rfl, t, _, 0, _, rfl, rfl, SqT.of h1', rfl, rfl, _, rfl, iteT ?_⟩
        refine ⟨_, rfl, _, _, rfl, rfl, ?_⟩
        refine ⟨r, tr, wd + 1, _, rfl, s1, eW1, h3', by rw [hsz]; omega, by omega, ?_⟩
        rw [hok]
        have : decide (wd + (words Nest.word + waitW r) ≤ 60) = decide (wd + 1 + waitW r ≤ 60) := by
          have : words Nest.word = 1 := by simp [words]
          rw [this]
          congr 1
          simp only [eq_iff_iff]
          omega
        rw [this]
        simp [valid]
      | bad =>
        obtain ⟨hu, hk⟩ := h2'
        refine ⟨_, rfl, t, _, 0, _, rfl, rfl, SqT.of h1', rfl, rfl, _, rfl, ?_⟩
        rw [decide_eq_false hu]
        refine iteF ⟨_, rfl, t, _, 0, _, rfl, rfl, SqT.of h1', rfl, u, rfl, .inl ⟨hk, fun H2 s2 => ⟨_, rfl, iteF (iteF ?_)⟩⟩⟩
        have : okN n = false := by rw [hok]; simp [valid]
        rw [this] at q
        exact q _ (s1.trans s2)
      | knot k ps =>
        obtain ⟨a, b, us, rfl, ea, eb, hu2, hu3, hps⟩ := h2'
        refine ⟨_, rfl, t, _, 0, _, rfl, rfl, SqT.of h1', rfl, rfl, _, rfl, iteF ?_⟩
        refine ⟨_, rfl, t, _, 0, _, rfl, rfl, SqT.of h1', rfl, _, rfl, .inr ⟨a, b, k, us, rfl, ea, eb, hu2, hu3, fun H2 s2 => ⟨_, rfl, iteT ?_⟩⟩⟩
        have h1'' := s2 _ _ h1'
        have ea' := s2 _ _ ea
        have eb' := s2 _ _ eb
        refine ⟨_, rfl, t, _, 0, _, rfl, rfl, SqT.of h1'', rfl, a, _, 0, _, rfl, rfl, SqT.of ea', rfl, _, rfl, t, _, 1, _, rfl, rfl, SqT.of h1'', rfl, rfl, _, rfl, ?_⟩
        rw [kS_ne]
        by_cases hsame : po = some k
        · rw [decide_eq_true hsame]
          refine iteF ?_
          have : okN n = false := by rw [hok]; simp [valid, hsame]
          rw [this] at q
          exact q _ (s1.trans s2)
        rw [decide_eq_false hsame]
        refine iteT ?_
        have eW2 := s2 _ _ eW1
        have S2 := s1.trans s2
        have hps' := NestsAt.mono s2 hps
        have h3'' := h3'.mono s2
        refine ⟨_, rfl, .inl ⟨rfl, _, SqL.of eW2⟩, _, rfl, t, _, 0, _, rfl, rfl, SqT.of h1'', rfl, a, _, 1, _, rfl, rfl, SqT.of ea', rfl, b, rfl, ⟨_, SqT.of eb'⟩, fun D hD => ?_⟩
        have hpl := hps'.len
        refine comp_inv (n := us.length) (fun i acc Hc => ∃ ts' : List Addr, acc = ts'.map V.ref ∧ ts'.length = i ∧ Hc D = some (.lst acc) ∧ Same H2 Hc ∧ WaitAt K Hc (within k (ps.take i)) ts') ⟨[], rfl, rfl, upd_same, same_upd hD, rfl⟩ ?_ (line1000 hu3) ?_ ?_ ?_
        · rintro i acc Hc ⟨ts', rfl, hl, e, _⟩
          exact ⟨e, by rw [List.length_map, hl]⟩
        · rintro i acc Hc hi ⟨ts', rfl, hl, e, sc, _⟩
          exact ⟨us, us[i], SqT.of (sc _ _ eb'), List.getElem?_eq_getElem hi⟩
        · rintro acc Hc ⟨ts', rfl, hl, e, sc, hw⟩
          refine ⟨⟨us, SqT.of (sc _ _ eb'), Nat.le_refl _⟩, ?_⟩
          rw [← hpl, List.take_length] at hw
          refine ⟨wl, D, _, _, rfl, rfl, sc _ _ eW2, e, line_mil (by simp; omega), ?_⟩
          have eWc := sc _ _ eW2
          refine ⟨(within k ps).reverse ++ r, ts'.reverse ++ tr, wd, _, rfl, sU _ _ (S2.trans sc), ?_, ?_, ?_, hwd, ?_⟩
          · rw [upd_same]
            simp
          · exact WaitAt.updL eWc (WaitAt.app hw.rev (h3''.mono sc))
          · rw [waitS_app, waitS_rev, within_s, hsz]
            simp only [sizeN]
            omega
          · rw [hok, waitW_app, waitW_rev, within_w, waitOk_app, waitOk_rev, within_ok]
            have hv : valid po (Nest.knot k ps) = validL k ps := by simp [valid, hsame]
            have hwk : words (Nest.knot k ps) = wordsL ps := by simp [words]
            show (valid po (Nest.knot k ps) && waitOk r && decide (wd + (words (Nest.knot k ps) + waitW r) ≤ 60)) = _
            rw [hv, hwk]
        · rintro i acc Hc y H5 R hi ⟨ts', rfl, hl, e, sc, hw⟩ ⟨rfl, hy⟩ hR
          have hyi := hy _ (SqT.of (sc _ _ eb'))
          obtain ⟨nn, hnn, hnv⟩ := hps'.get hyi
          refine ⟨_, rfl, _, rfl, t, _, 0, _, rfl, rfl, SqT.of (sc _ _ h1''), rfl, a, _, 0, _, rfl, rfl, SqT.of (sc _ _ ea'), rfl, (by show 2 ≤ sizeLine; decide), fun q1 hq1 => hR _ _ (same_upd hq1 _ _ e) ?_⟩
          refine ⟨ts' ++ [q1], by simp, by simp [hl], upd_same, fun b' o' e' => ?_, ?_⟩
          · rw [upd_ne (ne_of_none e' hD)]
            exact same_upd hq1 _ _ (sc _ _ e')
          · have hcat : within k (ps.take (i + 1)) = within k (ps.take i) ++ [(nn, some k)] := by
              rw [List.take_succ, hnn]
              simp [within]
            rw [hcat]
            refine WaitAt.updL (same_upd hq1 _ _ e) (WaitAt.app (hw.mono (same_upd hq1)) ⟨q1, [], y, rfl, upd_same, ?_, rfl⟩)
            exact (hnv.mono sc).mono (same_upd hq1)
theorem scMust : FnScope ["thing"] ["thing"] (defScope sMust) := ⟨rfl, rfl, rfl, by decide +kernel, rfl, by decide +kernel, by decide +kernel⟩
theorem ok_must {f fN C : Addr} {fd fdN : FuncData} (F : Fun K "must_be_nest" "must_be_nest" sMust f fd) (GN : FnOk P w K mg base CX0 2 fN fdN ["thing"] (spIsNest K)) (kN : PySem.W.keepIn K (.ref fN) = true) (mN : mg "is_nest" = some (.ref fN)) (bN : Binds K fdN ["thing"] [])
    (mC : mg "NoNest" = some (.ref C)) (xC : PySem.W.excIn K C bmVE "ValueError.__new__" = true) : FnOk P w K mg base (CXV P w) 3 f fd ["thing"] (spMust K C) := by
  refine funV F scMust (fun vs H Q E h => ?_) (fun cdv A outer s H vs Q E hr h => ?_)
  · obtain ⟨v, n, rfl, _⟩ := h; rfl
  · obtain ⟨v, n, rfl, hN, q, qE⟩ := h
    refine ⟨_, (pss_one (ps_if (pt_not (pt_val (pe_call GN hr (by rfl) mN kN bN .nil pass0 (pa_cons (pv 0) pa_nil)))) (pss_one (ps_raise throwV rfl (by rfl) mC xC (pa_cons pe_str pa_nil))) pss_nil)), ?_⟩
    refine ⟨_, rfl, v, n, rfl, hN, fun H1 s1 => ⟨_, rfl, ?_⟩⟩
    cases ho : okN n with
    | true => exact iteF (q ho _ s1)
    | false => exact iteT ⟨(by show 1 ≤ sizeLine; decide), qE ho _ s1⟩
theorem has_must {C : Addr} {mw : Tok} (D0 : Def K mg "is_nest" s_is_nest ["thing"]) (D1 : Def K mg "is_knot" s_is_knot ["thing"]) (D2 : Def K mg "must_be_nest" s_must_be_nest ["thing"]) (T : Txt mg) (mM : mg "MOST_WORDS" = some (.int 60 mw)) (mC : mg "NoNest" = some (.ref C)) (xC : PySem.W.excIn K C bmVE "ValueError.__new__" = true) :
    Has P w K mg base (CXV P w) 3 "must_be_nest" ["thing"] (spMust K C) := by
  obtain ⟨f0, fd0, F0, k0, m0, b0⟩ := D0.ex
  obtain ⟨f1, fd1, F1, k1, m1, b1⟩ := D1.ex
  obtain ⟨f2, fd2, F2, k2, m2, b2⟩ := D2.ex
  exact ⟨f2, fd2, ok_must F2 (ok_isnest F0 T (ok_knot F1 T) k1 m1 b1 mM) k0 m0 b0 mC xC, k2, m2, b2⟩
theorem has_isnest {mw : Tok} (D0 : Def K mg "is_nest" s_is_nest ["thing"]) (D1 : Def K mg "is_knot" s_is_knot ["thing"]) (T : Txt mg) (mM : mg "MOST_WORDS" = some (.int 60 mw)) : Has P w K mg base CX0 2 "is_nest" ["thing"] (spIsNest K) := by
  obtain ⟨f0, fd0, F0, k0, m0, b0⟩ := D0.ex
  obtain ⟨f1, fd1, F1, k1, m1, b1⟩ := D1.ex
  exact ⟨f0, fd0, ok_isnest F0 T (ok_knot F1 T) k1 m1 b1 mM, k0, m0, b0⟩
abbrev ns_written : List Str := ["nest"]
theorem sc_written : FnScope ns_written ["nest"] (defScope s_written) := ⟨rfl, rfl, rfl, by decide +kernel, rfl, by decide +kernel, by decide +kernel⟩
def cp_written_0 (s : Stmt) : Scope := match (defBody s).getD 1 (.Pass ⟨0, 0, 0, 0⟩) with
  | .Return (some (.BinOp (.BinOp _ _ (.Call _ [(.ListComp _ _ sc _)] _ _) _) _ _ _)) _ => sc
  | _ => defScope s
theorem cs_written_0 : CScope (defScope s_written) (cp_written_0 s_written) "part" ["part"] ns_written [] := cs_of (by decide +kernel)
theorem ok_written (D : Def K mg "written" s_written ["nest"]) (T : Txt mg) : ∀ d, Has P w K mg base CX0 d "written" ["nest"] (spWritten K d)
  | 0 => D.rec0 fun vs H Q E ⟨_, _, _, _, _, _, h, _⟩ => absurd h (Nat.not_lt_zero _)
  | d + 1 => by
    have h_written := ok_written D T d
    refine D.ok sc_written (fun vs H Q E h => ?_) (fun f cdv A outer s H vs Q E hr h => ?_)
    · obtain ⟨v, n, o, rfl, _⟩ := h; rfl
    · obtain ⟨v, n, o, rfl, hN, hv, hd, hw, q⟩ := h
      refine go_c (ps_if (pt_cmpR op_isN (pv 0) pe_non (nomark _)) (pss_one (ps_ret pe_str)) pss_nil) ?_
      intro t0'
      refine go_1 (ps_ret (pe_op op_add_str (pe_op op_add_str (pe_op op_add_str pe_str (pe_ix ix_tup (pv 0) pe_int (fun _ _ => rfl))) (pe_bm PySem.F.plainAttrs_str PySem.F.slot_str_join PySem.F.type_str_join mt_join pe_str (pa_cons (pe_comp rfl cs_written_0 rfl (pi_tup (pe_ix ix_tup (pv 0) pe_int (fun _ _ => rfl))) (fun cl C fp s H => pg_name (i := 0) cs_written_0.nd rfl (Or.inl rfl)) (fun cl C fp s H => pts_nil) (fun cl C fp s H => (pe_has h_written hr (by rfl) pass0 (pa_cons (pv 0) pa_nil)))) pa_nil))) pe_str)) ?_
      intro t1'
      cases n with
      | word =>
        have e : v = .non := hN
        subst e
        exact ⟨_, rfl, rfl, _, rfl, iteT (q _ (Same.refl _))⟩
      | bad => exact absurd hv (by simp [valid])
      | knot k ps =>
        have hf := NestAt.fit hN hv
        obtain ⟨a, b, us, rfl, ea, eb, hu2, hu3, hps⟩ := hN
        have hpl := hps.len
        have hvp : validL k ps = true := by simp only [valid, Bool.and_eq_true] at hv; exact hv.2
        refine ⟨_, rfl, rfl, _, rfl, iteF ?_⟩
        show t1' _ _ _
        have hlen := tx_len hf
        have hfl : fitL ps = true := by simp only [fit, Bool.and_eq_true] at hf; exact hf.2
        have hll := tx_lenL hfl
        simp only [words] at hw
        have k1 : (kS k).length = 1 := by cases k <;> decide +kernel
        refine ⟨_, rfl, a, _, 0, _, rfl, rfl, SqT.of ea, rfl, _, _, rfl, rfl, (by rw [k1]; decide), ?_⟩
        refine ⟨rfl, _, rfl, a, _, 1, _, rfl, rfl, SqT.of ea, rfl, b, rfl, ⟨_, SqT.of eb⟩, fun D hD => ?_⟩
        refine comp_inv (n := us.length) (fun i acc Hc => acc = ((ps.take i).map txS).map V.str ∧ Hc D = some (.lst acc) ∧ Same H Hc ∧ i ≤ us.length) ⟨rfl, upd_same, same_upd hD, Nat.zero_le _⟩ ?_ (line1000 hu3) ?_ ?_ ?_
        · rintro i acc Hc ⟨rfl, e, _, hi⟩
          exact ⟨e, by simp; omega⟩
        · rintro i acc Hc hi ⟨rfl, e, sc, _⟩
          exact ⟨us, us[i], SqT.of (sc _ _ eb), List.getElem?_eq_getElem hi⟩
        · rintro acc Hc ⟨rfl, e, sc, _⟩
          refine ⟨⟨us, SqT.of (sc _ _ eb), Nat.le_refl _⟩, ?_⟩
          rw [← hpl, List.take_length] at e
          refine ⟨"", D, ps.map txS, rfl, rfl, SqL.of e, (by rw [tx_sum]; show (txL ps).length + _ * 0 ≤ _; omega), ?_⟩
          rw [join_tx]
          have lj : (⟨(txL ps).toArray⟩ : Str).length = (txL ps).length := by show (txL ps).toArray.size = _; simp
          refine ⟨_, _, rfl, rfl, line1000 (by rw [lj]; show _ + _ ≤ _; rw [show (("(" : Str) ++ kS k).length = 2 by cases k <;> decide +kernel]; omega), _, _, rfl, rfl, line1000 ?_, ?_⟩
          · rw [str_len, str_len, k1, lj]
            show 1 + 1 + _ + 1 ≤ _
            omega
          · rw [tx_knot]
            exact q _ sc
        · rintro i acc Hc y H5 R hi ⟨rfl, e, sc, _⟩ ⟨rfl, hy⟩ hR
          obtain ⟨nn, hnn, hnv⟩ := hps.get (hy _ (SqT.of (sc _ _ eb)))
          have hdn := depthL_get hnn
          have hwn := wordsL_at hnn
          simp only [depthN] at hd
          refine ⟨_, rfl, y, nn, some k, rfl, hnv.mono sc, validL_get hvp hnn, by omega, by omega, fun H6 s6 => hR _ _ (s6 _ _ e) ⟨?_, upd_same, fun b' o' e' => ?_, hi⟩⟩
          · rw [List.take_succ, hnn]
            simp
          · rw [upd_ne (ne_of_none e' hD)]
            exact s6 _ _ (sc _ _ e')
abbrev ns_show_nest : List Str := ["nest"]
theorem sc_show_nest : FnScope ns_show_nest ["nest"] (defScope s_show_nest) := ⟨rfl, rfl, rfl, by decide +kernel, rfl, by decide +kernel, by decide +kernel⟩
theorem ok_show {C : Addr} (D : Def K mg "show_nest" s_show_nest ["nest"]) (T : Txt mg) (h_must_be_nest : Has P w K mg base (CXV P w) 3 "must_be_nest" ["thing"] (spMust K C)) (h_written : Has P w K mg base CX0 60 "written" ["nest"] (spWritten K 60)) : Has P w K mg base (CXV P w) 61 "show_nest" ["nest"] (spShow K C) := by
  refine D.okV sc_show_nest (fun vs H Q E h => ?_) (fun f cdv A outer s H vs Q E hr h => ?_)
  · obtain ⟨v, n, rfl, _⟩ := h; rfl
  · obtain ⟨v, n, rfl, hN, q, qE⟩ := h
    refine go_c (ps_expr (pe_has h_must_be_nest (hr.mono (by first | decide | omega)) (by rfl) passV (pa_cons (pv 0) pa_nil))) ?_
    intro t0'
    refine go_1 (ps_ret (pe_has h_written hr (by rfl) pass0 (pa_cons (pv 0) pa_nil))) ?_
    intro t1'
    refine ⟨_, rfl, v, n, rfl, hN, fun ho H1 s1 => ?_, qE⟩
    obtain ⟨h1, h2⟩ := okN_valid ho
    have h3 := depth_words hN
    exact ⟨_, rfl, v, n, none, rfl, hN.mono s1, h1, by omega, h2, fun H' st => q ho H' (s1.trans st)⟩
abbrev ns_only_nest : List Str := ["things"]
theorem sc_only_nest : FnScope ns_only_nest ["things"] (defScope s_only_nest) := ⟨rfl, rfl, rfl, by decide +kernel, rfl, by decide +kernel, by decide +kernel⟩
theorem ok_only {C : Addr} (D : Def K mg "only_nest" s_only_nest ["things"]) (T : Txt mg) (h_is_nest : Has P w K mg base CX0 2 "is_nest" ["thing"] (spIsNest K)) (mNoNest : mg "NoNest" = some (.ref C)) (xNoNest : PySem.W.excIn K C bmVE "ValueError.__new__" = true) : Has P w K mg base (CXV P w) 3 "only_nest" ["things"] (spOnlyN K C) := by
  refine D.okV sc_only_nest (fun vs H Q E h => ?_) (fun f cdv A outer s H vs Q E hr h => ?_)
  · obtain ⟨l, us, ns, rfl, _⟩ := h; rfl
  · obtain ⟨l, us, ns, rfl, el, hns, q, qE⟩ := h
    refine go_c (ps_if (PW.pt (pw_or (pt_cmpR op_ne (pe_callB call_len_seq (by rfl) T.b.len PySem.boot_len (pa_cons (pv 0) pa_nil)) pe_int (nomark _)) (pw_or1 (pt_not (pt_val (pe_has h_is_nest hr (by rfl) pass0 (pa_cons (pe_ix ix_list (pv 0) pe_int (fun _ _ => rfl)) pa_nil))))))) (pss_one (ps_raise throwV rfl (by rfl) mNoNest xNoNest (pa_cons pe_str pa_nil))) pss_nil) ?_
    intro t0'
    refine go_1 (ps_ret (pe_ix ix_list (pv 0) pe_int (fun _ _ => rfl))) ?_
    intro t1'
    have hln := hns.len
    refine ⟨_, rfl, l, _, rfl, .inl (SqL.of el), rfl, _, rfl, ?_⟩
    by_cases h1 : us.length = 1
    · rw [decide_eq_true (show V.int (us.length : Int) = V.int 1 by rw [h1]; rfl)]
      refine iteF ?_
      obtain ⟨v, rfl⟩ := List.length_eq_one_iff.mp h1
      obtain ⟨n, rfl⟩ := List.length_eq_one_iff.mp (hln.trans h1)
      obtain ⟨v', vr, ev, hn, _⟩ := hns
      cases ev
      refine ⟨_, rfl, l, _, 0, _, rfl, rfl, SqL.of el, rfl, v, n, rfl, hn, fun H1 s1 => ⟨_, rfl, ?_⟩⟩
      cases ho : okN n with
      | true => exact iteF ⟨_, rfl, l, _, 0, _, rfl, rfl, SqL.of (s1 _ _ el), rfl, q n v rfl rfl ho H1 s1⟩
      | false => exact iteT ⟨(by show 1 ≤ sizeLine; decide), qE (fun m hm => by cases hm; exact ho) _ s1⟩
    · rw [decide_eq_false (fun z => h1 (by have := V.int.inj z; omega))]
      exact iteT ⟨(by show 1 ≤ sizeLine; decide), qE (fun m hm => absurd (by rw [← hln, hm]; rfl) h1) _ (Same.refl _)⟩
abbrev ns_read_nest : List Str := ["text", "open_kinds", "open_parts", "place", "opening", "knot"]
theorem sc_read_nest : FnScope ns_read_nest ["text"] (defScope s_read_nest) := ⟨rfl, rfl, rfl, by decide +kernel, rfl, by decide +kernel, by decide +kernel⟩
theorem ok_read {C : Addr} (D : Def K mg "read_nest" s_read_nest ["text"]) (T : Txt mg) (h_only_nest : Has P w K mg base (CXV P w) 3 "only_nest" ["things"] (spOnlyN K C)) (mNoNest : mg "NoNest" = some (.ref C)) (xNoNest : PySem.W.excIn K C bmVE "ValueError.__new__" = true) : Has P w K mg base (CXV P w) 4 "read_nest" ["text"] (spRead K C) := by
  refine D.okV sc_read_nest (fun vs H Q E h => ?_) (fun f cdv A outer s H vs Q E hr h => ?_)
  · obtain ⟨v, rfl, _⟩ := h; rfl
  · obtain ⟨v, rfl, h⟩ := h
    refine go_c (ps_if (pt_not (pt_val (pe_callB call_isi (by rfl) T.b.isi boot_isi (pa_cons (pv 0) (pa_cons (pe_bltn (v := .ty "str") (by rfl) T.str boot_ty_str rfl) pa_nil))))) (pss_one (ps_raise throwV rfl (by rfl) mNoNest xNoNest (pa_cons pe_str pa_nil))) pss_nil) ?_
    intro t0'
    refine go_c (ps_set (i := 1) sc_read_nest.nd rfl (Or.inl rfl) (pe_lst pa_nil)) ?_
    intro t1'
    refine go_c (ps_set (i := 2) sc_read_nest.nd rfl (Or.inl rfl) (pe_lst (pa_cons (pe_lst pa_nil) pa_nil))) ?_
    intro t2'
    refine go_c (ps_set (i := 3) sc_read_nest.nd rfl (Or.inl rfl) pe_int) ?_
    intro t3'
    refine go_c (ps_while PassesOwn.leaving (pt_cmpR op_lt (pv 3) (pe_callB call_len_str (by rfl) T.b.len PySem.boot_len (pa_cons (pv 0) pa_nil)) (nomark _)) (pss_cons (ps_set (i := 4) sc_read_nest.nd rfl (Or.inl rfl) (pe_slice sl_str (pv 0) (po_some (pv 3)) (po_some (pe_op op_add (pv 3) pe_int))))
      (pss_one (ps_if (pt_cmpR (r := rIn K false) op_in_seq (pv 4) (pe_tup (pa_cons pe_str (pa_cons pe_str pa_nil))) rfl) (pss_cons (ps_expr (pe_bm PySem.F.plainAttrs_list PySem.F.slot_list_append PySem.F.type_list_append mt_append (pv 1) (pa_cons (pe_ix ix_str (pv 4) pe_int (fun _ _ => rfl)) pa_nil)))
      (pss_cons (ps_expr (pe_bm PySem.F.plainAttrs_list PySem.F.slot_list_append PySem.F.type_list_append mt_append (pv 2) (pa_cons (pe_lst pa_nil) pa_nil)))
      (pss_one (ps_aug (i := 3) sc_read_nest.nd rfl (Or.inl rfl) pe_int ip_add)))) (pss_one (ps_if (pt_cmpR op_eq (pe_ix ix_str (pv 0) (pv 3) (fun _ _ => rfl)) pe_str (nomark _)) (pss_cons (ps_expr (pe_bm PySem.F.plainAttrs_list PySem.F.slot_list_append PySem.F.type_list_append mt_append (pe_ix ix_list (pv 2) (pe_un un_neg pe_int) (fun _ _ => rfl)) (pa_cons pe_non pa_nil)))
      (pss_one (ps_aug (i := 3) sc_read_nest.nd rfl (Or.inl rfl) pe_int ip_add))) (pss_one (ps_if (PW.pt (pw_and (pt_cmpR op_eq (pe_ix ix_str (pv 0) (pv 3) (fun _ _ => rfl)) pe_str (nomark _)) (pw_and1 (pt_truth (pv 1) (fun _ => rfl))))) (pss_cons (ps_set (i := 5) sc_read_nest.nd rfl (Or.inl rfl) (pe_tup (pa_cons (pe_bm0 PySem.F.plainAttrs_list PySem.F.slot_list_pop PySem.F.type_list_pop mt_pop (pv 1)) (pa_cons (pe_callTy call_tuple_of (by rfl) T.b.tup boot_ty_tuple (pa_cons (pe_bm0 PySem.F.plainAttrs_list PySem.F.slot_list_pop PySem.F.type_list_pop mt_pop (pv 2)) pa_nil)) pa_nil))))
      (pss_cons (ps_expr (pe_bm PySem.F.plainAttrs_list PySem.F.slot_list_append PySem.F.type_list_append mt_append (pe_ix ix_list (pv 2) (pe_un un_neg pe_int) (fun _ _ => rfl)) (pa_cons (pv 5) pa_nil)))
      (pss_one (ps_aug (i := 3) sc_read_nest.nd rfl (Or.inl rfl) pe_int ip_add)))) (pss_one (ps_raise throwV rfl (by rfl) mNoNest xNoNest (pa_cons pe_str pa_nil))))))))))) ?_
    intro t4'
    refine go_c (ps_if (pt_truth (pv 1) (fun _ => rfl)) (pss_one (ps_raise throwV rfl (by rfl) mNoNest xNoNest (pa_cons pe_str pa_nil))) pss_nil) ?_
    intro t5'
    refine go_1 (ps_ret (pe_has h_only_nest hr (by rfl) passV (pa_cons (pe_ix ix_list (pv 2) pe_int (fun _ _ => rfl)) pa_nil))) ?_
    intro t6'
    rcases h with ⟨x, rfl, hx, hpt, q, qE⟩ | ⟨t, ht, hk, qE⟩
    rotate_left
    · exact ⟨_, rfl, _, _, _, _, rfl, ht, hk, _, rfl, iteT ⟨(by show 1 ≤ sizeLine; decide), qE _ (Same.refl _)⟩⟩
    refine ⟨_, rfl, _, _, _, _, rfl, .str _, kit_same _ _, _, rfl, iteF ?_⟩
    show tSeq t1' _ _ _ _
    refine ⟨(by show 0 ≤ sizeLine; omega), fun kl hkl => ?_⟩
    refine gname_go ?_
    refine ⟨(by show 0 ≤ sizeLine; omega), fun a0 ha0 => ⟨(by show 1 ≤ sizeLine; decide), fun ol hol => ?_⟩⟩
    have s1 := same_upd (o := .lst []) hkl
    have s2 := s1.trans (same_upd (o := .lst []) ha0)
    have nk0 : kl ≠ a0 := ne_of_none (upd_same (H := H) (a := kl) (o := .lst [])) ha0
    have eK : (upd (upd H kl (.lst [])) a0 (.lst [])) kl = some (.lst []) := by rw [upd_ne nk0]; exact upd_same
    have nko : kl ≠ ol := ne_of_none eK hol
    have n0o : a0 ≠ ol := ne_of_none (upd_same (H := upd H kl (.lst [])) (a := a0) (o := .lst [])) hol
    have h0a : H a0 = none := s1.free ha0
    have h0o : H ol = none := s2.free hol
    refine gname_go ?_
    refine gname_go ?_
    dsimp only [List.set]
    have sK : ∀ (G : Hp) (o : HO), Same H G → Same H (upd G kl o) := fun G o h b ob e => by rw [upd_ne (ne_of_none e hkl)]; exact h b ob e
    have sO : ∀ (G : Hp) (o : HO), Same H G → Same H (upd G ol o) := fun G o h b ob e => by rw [upd_ne (ne_of_none e h0o)]; exact h b ob e
    have hxl : x.cps.toList.length = x.length := by simp [Str.length]
    let W : Nat → L2.St → Hp → Prop := fun m σ H' => ∃ (pl : Nat) (ks : List Bool) (as : List Addr) (pss : List (List Nest)) (v4 v5 : Option V), σ = [some (.str x), some (.ref kl), some (.ref ol), some (.int (pl : Int)), v4, v5] ∧ Same H H' ∧ H' kl = some (.lst (ks.reverse.map fun k => V.str (kS k))) ∧ H' ol = some (.lst (as.reverse.map V.ref)) ∧ FrA K H' as pss ∧ as.Nodup ∧ (∀ a ∈ as, H a = none ∧ a ≠ kl ∧ a ≠ ol) ∧ pss.length = ks.length + 1 ∧ pl ≤ x.length ∧ ks.length ≤ pl ∧ readG false (x.cps.toList.drop pl) ks pss = readG false x.cps.toList [] [[]] ∧ (pss.map List.length).sum + pts (x.cps.toList.drop pl) ≤ 900 ∧ m = x.length - pl
    refine ⟨W, ⟨_, 0, [], [a0], [[]], none, none, rfl, sO _ _ s2, ?_, upd_same, ⟨⟨[], ?_, rfl⟩, trivial⟩, by simp, ?_, rfl, Nat.zero_le _, Nat.le_refl _, by rw [List.drop_zero], by simpa using hpt, rfl⟩, ?_⟩
    · rw [upd_ne nko]
      exact eK
    · rw [upd_ne n0o]
      exact upd_same
    · intro a ha
      cases List.mem_singleton.mp ha
      exact ⟨h0a, nk0.symm, n0o⟩
    rintro m σ H' ⟨pl, ks, as, pss, v4, v5, rfl, sx, eK', eO', hF, hnd, hfr, hkp, hpl, hks, hrd, hsum, rfl⟩
    have hal := hF.len
    refine ⟨_, rfl, _, rfl, x, rfl, Nat.le_trans hx (by decide), _, _, rfl, rfl, _, rfl, ?_⟩
    by_cases hlt : pl < x.length
    rotate_left
    · rw [decide_eq_false (by omega)]
      refine iteF ?_
      have ed : x.cps.toList.drop pl = [] := List.drop_eq_nil_of_le (by omega)
      rw [ed] at hrd
      show tSeq t5' t6' _ _ _
      refine ⟨_, rfl, _, .inl ⟨_, SqL.of eK', rfl⟩, ?_⟩
      cases ks with
      | cons k ks =>
        have hno : readG false x.cps.toList [] [[]] = none := by rw [← hrd]; exact read_done (by simp [stepR])
        rw [show (!((k :: ks).reverse.map fun k => V.str (kS k)).isEmpty) = true by simp]
        refine iteT ⟨(by show 1 ≤ sizeLine; decide), qE ?_ _ sx⟩
        unfold readP
        rw [hno]
      | nil =>
        refine iteF ?_
        obtain ⟨p, rfl⟩ := List.length_eq_one_iff.mp hkp
        obtain ⟨a, rfl⟩ := List.length_eq_one_iff.mp (hal.trans hkp)
        · obtain ⟨⟨vs, ea, hns⟩, _⟩ := hF
          have hsome : readG false x.cps.toList [] [[]] = some p := by rw [← hrd]; exact read_done rfl
          refine ⟨_, rfl, ol, _, 0, _, rfl, rfl, SqL.of eO', rfl, a, vs, p, rfl, ea, hns, fun n v hn hv ho H1 s1 => ?_, fun hbad H1 s1 => ?_⟩
          · subst hn
            subst hv
            obtain ⟨v', vr, ev, hn', _⟩ := hns
            cases ev
            refine q n ?_ v H1 (hn'.mono s1) (sx.trans s1)
            unfold readP
            rw [hsome]
            simp [ho]
          · refine qE ?_ _ (sx.trans s1)
            unfold readP
            rw [hsome]
            split
            · rename_i n e
              cases e
              rw [hbad n rfl]
              rfl
            · rfl
    · rw [decide_eq_true (by omega)]
      refine iteT ?_
      obtain ⟨c, hc⟩ : ∃ c, x.cps.toList[pl]? = some c := ⟨_, List.getElem?_eq_getElem (by omega)⟩
      obtain ⟨r, hr'⟩ : ∃ r, x.cps.toList.drop pl = c :: r := by
        obtain ⟨h1, h2⟩ := List.getElem?_eq_some_iff.mp hc
        exact ⟨_, by rw [List.drop_eq_getElem_cons h1, h2]⟩
      have hr1 : x.cps.toList.drop (pl + 1) = r := by rw [← List.drop_drop, hr']; rfl
      refine ⟨fun σ' H2 => ∃ m', m' < x.length - pl ∧ W m' σ' H2, fun σ' H2 h => h, ?_⟩
      refine ⟨_, rfl, _, rfl, _, rfl, _, rfl, _, _, rfl, rfl, ((pl + 2 : Nat) : Int), rfl, x, rfl, Nat.le_trans hx (by decide), ?_⟩
      have hop := slice_ss x pl (pl + 2) hpl
      rw [show pl + 2 - pl = 2 by omega, hr'] at hop
      generalize Txt.slice x (some (pl : Int)) (some ((pl + 2 : Nat) : Int)) = op at hop ⊢
      refine gname_go ?_
      dsimp only [List.set]
      refine ⟨_, rfl, (by show 2 ≤ sizeLine; decide), fun t1 ht1 => ?_⟩
      have s3 := same_upd (o := .tup [V.str "(+", V.str "(-"]) ht1
      have et1 : (upd H' t1 (.tup [V.str "(+", V.str "(-"])) t1 = some (.tup [V.str "(+", V.str "(-"]) := upd_same
      have eK3 := s3 _ _ eK'
      have eO3 := s3 _ _ eO'
      have hF3 := hF.mono s3
      have sx3 := sx.trans s3
      generalize upd H' t1 (.tup [V.str "(+", V.str "(-"]) = H3 at s3 et1 eK3 eO3 hF3 sx3 ⊢
      refine ⟨t1, _, rfl, .inr (SqT.of et1), rfl, rfl, _, rfl, ?_⟩
      have hks' : ks.length ≤ 3000 := by omega
      have has' : as.length ≤ 3001 := by omega
      by_cases hin : ∃ k, op = opS k
      · rw [show (if false = true then !inV (V.str op) [V.str "(+", V.str "(-"] else inV (V.str op) [V.str "(+", V.str "(-"]) = true from in_open.mpr hin]
        obtain ⟨k, rfl⟩ := hin
        rw [opS_cps] at hop
        obtain ⟨r', hrr⟩ := two_is hop.symm
        have hd2 : x.cps.toList.drop (pl + 2) = r' := by rw [← List.drop_drop, hr', hrr]; rfl
        have hpl2 : pl + 2 ≤ x.length := by
          have := congrArg List.length (hr'.trans hrr)
          rw [List.length_drop, List.length_cons, List.length_cons] at this
          omega
        obtain ⟨ch, hch, hcS⟩ : ∃ ch, atI (opS k).cps.toList 1 = some ch ∧ (⟨#[ch]⟩ : Str) = kS k := by
          cases k
          · exact ⟨45, by decide +kernel, by decide +kernel⟩
          · exact ⟨43, by decide +kernel, by decide +kernel⟩
        refine iteT ⟨_, rfl, .inl ⟨rfl, _, SqL.of eK3⟩, _, rfl, _, 1, ch, rfl, rfl, (by cases k <;> decide +kernel), hch, kl, _, _, rfl, rfl, eK3, line3000 (by simp; omega), ?_⟩
        rw [hcS]
        have eO4 : (upd H3 kl (.lst ((ks.reverse.map fun k => V.str (kS k)) ++ [V.str (kS k)]))) ol = some (.lst (as.reverse.map V.ref)) := by rw [upd_ne nko.symm]; exact eO3
        have eK4 : (upd H3 kl (.lst ((ks.reverse.map fun k => V.str (kS k)) ++ [V.str (kS k)]))) kl = some (.lst ((k :: ks).reverse.map fun k => V.str (kS k))) := by rw [upd_same]; simp
        have hF4 := FrA.upd (vs := (ks.reverse.map fun k => V.str (kS k)) ++ [V.str (kS k)]) eK3 (fun z => (hfr _ z).2.1 rfl) hF3
        have sx4 := sK _ (.lst ((ks.reverse.map fun k => V.str (kS k)) ++ [V.str (kS k)])) sx3
        generalize upd H3 kl (.lst ((ks.reverse.map fun k => V.str (kS k)) ++ [V.str (kS k)])) = H4 at eO4 eK4 hF4 sx4 ⊢
        refine ⟨_, rfl, .inl ⟨rfl, _, SqL.of eO4⟩, (by show 0 ≤ sizeLine; omega), fun a1 ha1 => ?_⟩
        have s5 := same_upd (o := .lst []) ha1
        have e5 : (upd H4 a1 (.lst [])) a1 = some (.lst []) := upd_same
        have n1o : a1 ≠ ol := (ne_of_none eO4 ha1).symm
        have n1k : a1 ≠ kl := (ne_of_none eK4 ha1).symm
        have h1a : H a1 = none := sx4.free ha1
        have n1as : a1 ∉ as := hF4.not_in ha1
        have eO5 := s5 _ _ eO4
        have eK5 := s5 _ _ eK4
        have hF5 := hF4.mono s5
        have sx5 := sx4.trans s5
        generalize upd H4 a1 (.lst []) = H5 at s5 e5 eO5 eK5 hF5 sx5 ⊢
        refine ⟨ol, _, _, rfl, rfl, eO5, line3000 (by simp; omega), ?_⟩
        refine ⟨_, rfl, _, _, rfl, rfl, x.length - (pl + 2), by omega, pl + 2, k :: ks, a1 :: as, [] :: pss, _, _, rfl, sO _ _ sx5, ?_, ?_, ⟨⟨[], ?_, rfl⟩, FrA.upd eO5 (fun z => (hfr _ z).2.2 rfl) hF5⟩, List.nodup_cons.mpr ⟨n1as, hnd⟩, ?_, by simp; omega, hpl2, by simp; omega, ?_, ?_, rfl⟩
        · rw [upd_ne nko]
          exact eK5
        · rw [upd_same]
          simp
        · rw [upd_ne n1o]
          exact e5
        · intro b hb
          rcases List.mem_cons.mp hb with h | h
          · rw [h]; exact ⟨h1a, n1k, n1o⟩
          · exact hfr b h
        · rw [← hrd, hr', hrr, hd2]
          exact (read_more (step_open false k r' ks pss)).symm
        · rw [hd2]
          rw [hr', hrr, pts_cons, pts_cons] at hsum
          simp
          omega
      · rw [show (if false = true then !inV (V.str op) [V.str "(+", V.str "(-"] else inV (V.str op) [V.str "(+", V.str "(-"]) = false from by rw [if_neg (by decide)]; exact Bool.eq_false_iff.mpr fun z => hin (in_open.mp z)]
        refine iteF ?_
        have hno : ∀ (k : Bool) (r' : List Nat), c :: r ≠ 40 :: (if k then 43 else 45) :: r' := fun k r' z => hin ⟨k, str_ext (by rw [hop, z, opS_cps]; rfl)⟩
        refine ⟨_, rfl, _, rfl, x, (pl : Int), c, rfl, rfl, Nat.le_trans hx (by decide), atI_nat hc, rfl, _, rfl, ?_⟩
        obtain ⟨a, as, rfl⟩ : ∃ a as', as = a :: as' := match as, hal, hkp with | a :: as', _, _ => ⟨a, as', rfl⟩ | [], h1, h2 => absurd (h1.trans h2) (by simp)
        obtain ⟨p, pss, rfl⟩ : ∃ p pss', pss = p :: pss' := match pss, hkp with | p :: pss', _ => ⟨p, pss', rfl⟩ | [], h => absurd h (by simp)
        obtain ⟨⟨vs, ea, hns⟩, hFr⟩ := hF3
        obtain ⟨ha1, ha2⟩ := List.nodup_cons.mp hnd
        obtain ⟨hf1, hf2, hf3⟩ := hfr a (.head _)
        have hvl := hns.len
        by_cases h46 : c = 46
        · subst h46
          rw [decide_eq_true (show V.str ⟨#[46]⟩ = V.str (Str.ofString ".") from rfl)]
          have hsum' := hsum
          rw [hr', pts_cons, if_pos (.inl rfl), List.map_cons, List.sum_cons] at hsum'
          refine iteT ⟨_, rfl, 1, rfl, ol, _, -1, V.ref a, rfl, rfl, SqL.of eO3, at_top a as, .inl ⟨rfl, _, SqL.of ea⟩, a, _, _, rfl, rfl, ea, small1000 (by omega), ?_⟩
          refine ⟨_, rfl, _, _, rfl, rfl, x.length - (pl + 1), by omega, pl + 1, ks, a :: as, (p ++ [.word]) :: pss, _, _, rfl, ?_, ?_, ?_, ⟨⟨vs ++ [V.non], upd_same, NestsAt.app (NestsAt.updL ea hns) (NestsAt.one (n := .word) rfl)⟩, FrA.upd ea ha1 hFr⟩, hnd, hfr, by simpa using hkp, by omega, by omega, ?_, ?_, rfl⟩
          · intro b ob e
            rw [upd_ne (ne_of_none e hf1)]
            exact sx3 b ob e
          · rw [upd_ne hf2.symm]
            exact eK3
          · rw [upd_ne hf3.symm]
            exact eO3
          · rw [← hrd, hr', hr1]
            exact (read_more (show stepR false (46 :: r) ks (p :: pss) = _ from rfl)).symm
          · rw [hr1]
            simp
            omega
        · rw [decide_eq_false (p := V.str ⟨#[c]⟩ = V.str (Str.ofString ".")) (fun z => h46 (one_is.mp (V.str.inj z)))]
          refine iteF ?_
          refine if_leaf (fun b => b = decide (c = 41 ∧ ks ≠ [])) (fun R hR => ?_) (fun h1 => ?_) (fun h0 => ?_)
          · refine ⟨_, rfl, _, rfl, x, (pl : Int), c, rfl, rfl, Nat.le_trans hx (by decide), atI_nat hc, rfl, _, rfl, ?_⟩
            by_cases h41 : c = 41
            · subst h41
              rw [decide_eq_true (show V.str ⟨#[41]⟩ = V.str (Str.ofString ")") from rfl)]
              refine iteT ⟨_, rfl, _, .inl ⟨_, SqL.of eK3, rfl⟩, hR _ ?_⟩
              cases ks <;> simp
            · rw [decide_eq_false (p := V.str ⟨#[c]⟩ = V.str (Str.ofString ")")) (fun z => h41 (one_is.mp (V.str.inj z)))]
              refine iteF (hR _ ?_)
              simp [h41]
          · have h1 := of_decide_eq_true h1.symm
            obtain ⟨rfl, hkne⟩ := h1
            obtain ⟨k, ks, rfl⟩ : ∃ k ks', ks = k :: ks' := match ks, hkne with | k :: ks', _ => ⟨k, ks', rfl⟩ | [], h => absurd rfl h
            obtain ⟨b, as, rfl⟩ : ∃ b as', as = b :: as' := match as, hal, hkp with | b :: as', _, _ => ⟨b, as', rfl⟩ | [], h1, h2 => absurd (h1.trans h2) (by simp)
            obtain ⟨p2, pss, rfl⟩ : ∃ p2 pss', pss = p2 :: pss' := match pss, hkp with | p2 :: pss', _ => ⟨p2, pss', rfl⟩ | [], h => absurd h (by simp)
            obtain ⟨⟨ws, eb, hns2⟩, hFr2⟩ := hFr
            obtain ⟨hb1, hb2⟩ := List.nodup_cons.mp ha2
            obtain ⟨hg1, hg2, hg3⟩ := hfr b (.tail _ (.head _))
            have hwl := hns2.len
            have hab : a ≠ b := fun z => ha1 (z ▸ .head _)
            have hsum' := hsum
            rw [hr', pts_cons, if_pos (.inr rfl), List.map_cons, List.sum_cons, List.map_cons, List.sum_cons] at hsum'
            have eK3' : H3 kl = some (.lst ((ks.reverse.map fun k => V.str (kS k)) ++ [V.str (kS k)])) := by rw [eK3]; simp
            have eO3' : H3 ol = some (.lst ((b :: as).reverse.map V.ref ++ [V.ref a])) := by rw [eO3]; simp
            refine ⟨_, rfl, .inl ⟨rfl, _, SqL.of eK3'⟩, kl, _, V.str (kS k), rfl, rfl, eK3', (by simp), ?_⟩
            rw [List.dropLast_concat]
            have eK4 : (upd H3 kl (.lst (ks.reverse.map fun k => V.str (kS k)))) kl = some (.lst (ks.reverse.map fun k => V.str (kS k))) := upd_same
            have eO4 : (upd H3 kl (.lst (ks.reverse.map fun k => V.str (kS k)))) ol = some (.lst ((b :: as).reverse.map V.ref ++ [V.ref a])) := by rw [upd_ne nko.symm]; exact eO3'
            have hF4 : FrA K (upd H3 kl (.lst (ks.reverse.map fun k => V.str (kS k)))) (a :: b :: as) (p :: p2 :: pss) := FrA.upd eK3 (fun z => (hfr _ z).2.1 rfl) ⟨⟨vs, ea, hns⟩, ⟨ws, eb, hns2⟩, hFr2⟩
            have sx4 := sK _ (.lst (ks.reverse.map fun k => V.str (kS k))) sx3
            generalize upd H3 kl (.lst (ks.reverse.map fun k => V.str (kS k))) = H4 at eK4 eO4 hF4 sx4 ⊢
            refine ⟨_, rfl, .inl ⟨rfl, _, SqL.of eO4⟩, ol, _, V.ref a, rfl, rfl, eO4, (by simp), ?_⟩
            rw [List.dropLast_concat]
            have eK5 : (upd H4 ol (.lst ((b :: as).reverse.map V.ref))) kl = some (.lst (ks.reverse.map fun k => V.str (kS k))) := by rw [upd_ne nko]; exact eK4
            have eO5 : (upd H4 ol (.lst ((b :: as).reverse.map V.ref))) ol = some (.lst ((b :: as).reverse.map V.ref)) := upd_same
            have hF5 := FrA.upd (vs := (b :: as).reverse.map V.ref) eO4 (fun z => (hfr _ z).2.2 rfl) hF4
            have sx5 := sO _ (.lst ((b :: as).reverse.map V.ref)) sx4
            generalize upd H4 ol (.lst ((b :: as).reverse.map V.ref)) = H5 at eK5 eO5 hF5 sx5 ⊢
            obtain ⟨⟨vs5, ea5, hns5⟩, ⟨ws5, eb5, hns25⟩, hFr5⟩ := hF5
            have hvl5 := hns5.len
            have hwl5 := hns25.len
            refine ⟨a, vs5, rfl, .inl ⟨SqL.of ea5, fun tb htb => ⟨(by show 2 ≤ sizeLine; decide), fun tk htk => ?_⟩⟩⟩
            have s6 := (same_upd (o := .tup vs5) htb).trans (same_upd (o := .tup [V.str (kS k), V.ref tb]) htk)
            have etb : (upd (upd H5 tb (.tup vs5)) tk (.tup [V.str (kS k), V.ref tb])) tb = some (.tup vs5) := same_upd htk _ _ upd_same
            have etk : (upd (upd H5 tb (.tup vs5)) tk (.tup [V.str (kS k), V.ref tb])) tk = some (.tup [V.str (kS k), V.ref tb]) := upd_same
            generalize upd (upd H5 tb (.tup vs5)) tk (.tup [V.str (kS k), V.ref tb]) = H6 at s6 etb etk ⊢
            refine gname_go ?_
            dsimp only [List.set]
            have eO6 := s6 _ _ eO5
            have eb6 := s6 _ _ eb5
            have hmk : NestAt K H6 (mkN k p) (.ref tk) := mk_at etk etb (by omega) (NestsAt.mono s6 hns5)
            refine ⟨_, rfl, 1, rfl, ol, _, -1, V.ref b, rfl, rfl, SqL.of eO6, at_top b as, .inl ⟨rfl, _, SqL.of eb6⟩, _, rfl, b, _, _, rfl, rfl, eb6, small1000 (by omega), ?_⟩
            refine ⟨_, rfl, _, _, rfl, rfl, x.length - (pl + 1), by omega, pl + 1, ks, b :: as, (p2 ++ [mkN k p]) :: pss, _, _, rfl, ?_, ?_, ?_, ⟨⟨_, upd_same, NestsAt.app (NestsAt.updL eb6 (NestsAt.mono s6 hns25)) (NestsAt.one (NestAt.updL eb6 hmk))⟩, FrA.upd eb6 hb1 (hFr5.mono s6)⟩, ha2, fun z hz => hfr z (.tail _ hz), by simp at hkp ⊢; omega, by omega, by simp at hks; omega, ?_, ?_, rfl⟩
            · intro b' ob e
              rw [upd_ne (ne_of_none e hg1)]
              exact s6 _ _ (sx5 b' ob e)
            · rw [upd_ne hg2.symm]
              exact s6 _ _ eK5
            · rw [upd_ne hg3.symm]
              exact eO6
            · rw [← hrd, hr', hr1]
              exact (read_more (show stepR false (41 :: r) (k :: ks) (p :: p2 :: pss) = _ by simp [stepR])).symm
            · rw [hr1]
              simp
              omega
          · have h0 := of_decide_eq_false h0.symm
            refine ⟨(by show 1 ≤ sizeLine; decide), qE ?_ _ sx3⟩
            unfold readP
            rw [← hrd, hr', read_done (step_no hno h46 fun z => by
              cases ks with
              | nil => rfl
              | cons k ks => exact absurd ⟨z, by simp⟩ h0)]
abbrev ns_law_closed : List Str := ["kind", "parts", "above"]
theorem sc_law_closed : FnScope ns_law_closed ["kind", "parts", "above"] (defScope s_law_closed) := ⟨rfl, rfl, rfl, by decide +kernel, rfl, by decide +kernel, by decide +kernel⟩
theorem ok_closed (D : Def K mg "_law_closed" s_law_closed ["kind", "parts", "above"]) (T : Txt mg) : Has P w K mg base CX0 1 "_law_closed" ["kind", "parts", "above"] (spClosed14 K) := by
  refine D.ok sc_law_closed (fun vs H Q E h => ?_) (fun f cdv A outer s H vs Q E hr h => ?_)
  · obtain ⟨k, ks, a, us, p, rfl, _⟩ := h; rfl
  · obtain ⟨k, ks, a, us, p, rfl, ea, hl, hn, q1, q2⟩ := h
    refine go_c (ps_if (PW.pt (pw_or (pt_cmpR op_lt (pe_callB call_len_seq (by rfl) T.b.len PySem.boot_len (pa_cons (pv 1) pa_nil)) pe_int (nomark _)) (pw_or1 (pt_cmpR op_eq (pv 0) (pv 2) (nomark _))))) (pss_one (ps_ret pe_non)) pss_nil) ?_
    intro t0'
    refine go_1 (ps_ret (pe_tup (pa_cons (pv 0) (pa_cons (pe_callTy call_tuple_of (by rfl) T.b.tup boot_ty_tuple (pa_cons (pv 1) pa_nil)) pa_nil)))) ?_
    intro t1'
    have hpl := hn.len
    refine ⟨_, rfl, a, _, rfl, .inl (SqL.of ea), _, _, rfl, rfl, _, rfl, ?_⟩
    by_cases h1 : p.length < 2
    · rw [decide_eq_true (show (us.length : Int) < 2 by omega)]
      exact iteT (q1 (.inl h1))
    rw [decide_eq_false (show ¬ (us.length : Int) < 2 by omega)]
    refine iteF ⟨_, rfl, _, rfl, rfl, _, rfl, ?_⟩
    by_cases h2 : ks.head? = some k
    · rw [decide_eq_true (show V.str (kS k) = V.str (oK ks) by rw [kS_oK.mpr h2])]
      exact iteT (q1 (.inr h2))
    rw [decide_eq_false (show ¬ V.str (kS k) = V.str (oK ks) from fun z => h2 (kS_oK.mp (V.str.inj z)))]
    refine iteF ⟨_, rfl, _, rfl, a, _, rfl, .inl ⟨SqL.of ea, fun b hb => ⟨(by show 2 ≤ sizeLine; decide), fun t ht => ?_⟩⟩⟩
    have s1 := (same_upd (o := .tup us) hb).trans (same_upd (o := .tup [V.str (kS k), V.ref b]) ht)
    exact q2 (fun z => z.elim h1 h2) t _ ⟨t, b, us, rfl, upd_same, same_upd ht _ _ upd_same, by omega, hl, NestsAt.mono s1 hn⟩ s1
abbrev ns_law_read : List Str := ["text", "pile", "k", "kind", "parts", "made"]
theorem sc_law_read : FnScope ns_law_read ["text"] (defScope s_law_read) := ⟨rfl, rfl, rfl, by decide +kernel, rfl, by decide +kernel, by decide +kernel⟩
theorem ok_lread (D : Def K mg "_law_read" s_law_read ["text"]) (T : Txt mg) (h_law_closed : Has P w K mg base CX0 1 "_law_closed" ["kind", "parts", "above"] (spClosed14 K)) : Has P w K mg base CX0 2 "_law_read" ["text"] (spLRead K) := by
  refine D.ok sc_law_read (fun vs H Q E h => ?_) (fun f cdv A outer s H vs Q E hr h => ?_)
  · obtain ⟨x, rfl, _⟩ := h; rfl
  · obtain ⟨x, rfl, hx, hpt, q, qN⟩ := h
    refine go_c (ps_set (i := 1) sc_law_read.nd rfl (Or.inl rfl) (pe_lst (pa_cons (pe_lst (pa_cons pe_str (pa_cons (pe_lst pa_nil) pa_nil))) pa_nil))) ?_
    intro t0'
    refine go_c (ps_set (i := 2) sc_law_read.nd rfl (Or.inl rfl) pe_int) ?_
    intro t1'
    refine go_c (ps_while PassesOwn.never (pt_cmpR op_lt (pv 2) (pe_callB call_len_str (by rfl) T.b.len PySem.boot_len (pa_cons (pv 0) pa_nil)) (nomark _)) (pss_cons (ps_if (pt_cmpR (r := rIn K false) op_in_seq (pe_slice sl_str (pv 0) (po_some (pv 2)) (po_some (pe_op op_add (pv 2) pe_int))) (pe_lst (pa_cons pe_str (pa_cons pe_str pa_nil))) rfl) (pss_cons (ps_expr (pe_bm PySem.F.plainAttrs_list PySem.F.slot_list_append PySem.F.type_list_append mt_append (pv 1) (pa_cons (pe_lst (pa_cons (pe_ix ix_str (pv 0) (pe_op op_add (pv 2) pe_int) (fun _ _ => rfl)) (pa_cons (pe_lst pa_nil) pa_nil))) pa_nil)))
      (pss_one (ps_set (i := 2) sc_law_read.nd rfl (Or.inl rfl) (pe_op op_add (pv 2) pe_int)))) (pss_one (ps_if (pt_cmpR op_eq (pe_ix ix_str (pv 0) (pv 2) (fun _ _ => rfl)) pe_str (nomark _)) (pss_one (ps_expr (pe_bm PySem.F.plainAttrs_list PySem.F.slot_list_append PySem.F.type_list_append mt_append (pe_ix ix_list (pe_ix ix_list (pv 1) (pe_un un_neg pe_int) (fun _ _ => rfl)) pe_int (fun _ _ => rfl)) (pa_cons pe_non pa_nil)))) (pss_one (ps_if (PW.pt (pw_and (pt_cmpR op_eq (pe_ix ix_str (pv 0) (pv 2) (fun _ _ => rfl)) pe_str (nomark _)) (pw_and1 (pt_cmpR op_gt (pe_callB call_len_seq (by rfl) T.b.len PySem.boot_len (pa_cons (pv 1) pa_nil)) pe_int (nomark _))))) (pss_cons (ps_asg (pe_bm0 PySem.F.plainAttrs_list PySem.F.slot_list_pop PySem.F.type_list_pop mt_pop (pv 1)) (pg_tupL rfl (pgs_cons (pg_name (i := 3) sc_law_read.nd rfl (Or.inl rfl)) (pgs_cons (pg_name (i := 4) sc_law_read.nd rfl (Or.inl rfl)) pgs_nil))))
      (pss_cons (ps_set (i := 5) sc_law_read.nd rfl (Or.inl rfl) (pe_has h_law_closed hr (by rfl) pass0 (pa_cons (pv 3) (pa_cons (pv 4) (pa_cons (pe_ix ix_list (pe_ix ix_list (pv 1) (pe_un un_neg pe_int) (fun _ _ => rfl)) pe_int (fun _ _ => rfl)) pa_nil)))))
      (pss_cons (ps_if (pt_cmpR op_isN (pv 5) pe_non (nomark _)) (pss_one (ps_ret (pe_lst pa_nil))) pss_nil)
      (pss_one (ps_expr (pe_bm PySem.F.plainAttrs_list PySem.F.slot_list_append PySem.F.type_list_append mt_append (pe_ix ix_list (pe_ix ix_list (pv 1) (pe_un un_neg pe_int) (fun _ _ => rfl)) pe_int (fun _ _ => rfl)) (pa_cons (pv 5) pa_nil))))))) (pss_one (ps_ret (pe_lst pa_nil))))))))
      (pss_one (ps_set (i := 2) sc_law_read.nd rfl (Or.inl rfl) (pe_op op_add (pv 2) pe_int))))) ?_
    intro t2'
    refine go_c (ps_if (PW.pt (pw_or (pt_cmpR op_ne (pe_callB call_len_seq (by rfl) T.b.len PySem.boot_len (pa_cons (pv 1) pa_nil)) pe_int (nomark _)) (pw_or (pt_cmpR op_ne (pe_callB call_len_seq (by rfl) T.b.len PySem.boot_len (pa_cons (pe_ix ix_list (pe_ix ix_list (pv 1) pe_int (fun _ _ => rfl)) pe_int (fun _ _ => rfl)) pa_nil)) pe_int (nomark _)) (pw_or1 (pt_cmpR op_gt (pe_bm PySem.F.plainAttrs_str PySem.F.slot_str_count PySem.F.type_str_count mt_countS (pv 0) (pa_cons pe_str pa_nil)) pe_int (nomark _)))))) (pss_one (ps_ret (pe_lst pa_nil))) pss_nil) ?_
    intro t3'
    refine go_1 (ps_ret (pe_ix ix_list (pe_ix ix_list (pv 1) pe_int (fun _ _ => rfl)) pe_int (fun _ _ => rfl))) ?_
    intro t4'
    have hxl : x.cps.toList.length = x.length := by simp [Str.length]
    have gone : readG true x.cps.toList [] [[]] = none → readP x.cps.toList = none := fun h => by
      cases e : readP x.cps.toList with
      | none => rfl
      | some n => have := (readP_law.mp e).1; rw [h] at this; cases this
    refine ⟨(by show 0 ≤ sizeLine; omega), fun a0 ha0 => ⟨(by show 2 ≤ sizeLine; decide), fun e0 he0 => ⟨(by show 1 ≤ sizeLine; decide), fun wl hwl => ?_⟩⟩⟩
    have n0e : a0 ≠ e0 := ne_of_none (upd_same (H := H) (a := a0) (o := .lst [])) he0
    have ea0 : (upd (upd H a0 (.lst [])) e0 (.lst [V.str "", V.ref a0])) a0 = some (.lst []) := by rw [upd_ne n0e]; exact upd_same
    have ee0 : (upd (upd H a0 (.lst [])) e0 (.lst [V.str "", V.ref a0])) e0 = some (.lst [V.str "", V.ref a0]) := upd_same
    have s2 : Same H (upd (upd H a0 (.lst [])) e0 (.lst [V.str "", V.ref a0])) := (same_upd ha0).trans (same_upd he0)
    have h0e : H e0 = none := (same_upd ha0).free he0
    have n0w : a0 ≠ wl := ne_of_none ea0 hwl
    have new : e0 ≠ wl := ne_of_none ee0 hwl
    have h0w : H wl = none := s2.free hwl
    generalize upd (upd H a0 (.lst [])) e0 (.lst [V.str "", V.ref a0]) = H1 at ea0 ee0 s2 hwl ⊢
    refine gname_go ?_
    refine gname_go ?_
    dsimp only [List.set]
    have sW : ∀ (G : Hp) (o : HO), Same H G → Same H (upd G wl o) := fun G o h b ob e => by rw [upd_ne (ne_of_none e h0w)]; exact h b ob e
    let W : Nat → L2.St → Hp → Prop := fun m σ H' => ∃ (pl : Nat) (ks : List Bool) (es : List (Addr × Addr)) (pss : List (List Nest)) (v3 v4 v5 : Option V), σ = [some (.str x), some (.ref wl), some (.int (pl : Int)), v3, v4, v5] ∧ Same H H' ∧ H' wl = some (.lst (es.reverse.map fun e => V.ref e.1)) ∧ EnA H' es ks ∧ FrA K H' (es.map (·.2)) pss ∧ (es.map (·.2)).Nodup ∧ (∀ e ∈ es, H e.2 = none ∧ e.1 ≠ wl ∧ e.2 ≠ wl ∧ e.1 ∉ es.map (·.2)) ∧ pl ≤ x.length ∧ ks.length ≤ pl ∧ readG true (x.cps.toList.drop pl) ks pss = readG true x.cps.toList [] [[]] ∧ (pss.map List.length).sum + pts (x.cps.toList.drop pl) ≤ 900 ∧ m = x.length - pl
    refine ⟨W, ⟨_, 0, [], [(e0, a0)], [[]], none, none, none, rfl, sW _ _ s2, upd_same, ?_, ⟨⟨[], ?_, rfl⟩, trivial⟩, by simp, ?_, Nat.zero_le _, Nat.le_refl _, by rw [List.drop_zero], by simpa using hpt, rfl⟩, ?_⟩
    · show upd H1 wl _ e0 = _
      rw [upd_ne new]
      exact ee0
    · rw [upd_ne n0w]
      exact ea0
    · intro e he
      cases List.mem_singleton.mp he
      exact ⟨ha0, new, n0w, by simpa using n0e.symm⟩
    rintro m σ H' ⟨pl, ks, es, pss, v3, v4, v5, rfl, sx, eW, hE, hF, hnd, hfr, hpl, hks, hrd, hsum, rfl⟩
    have hal := hF.len
    have hel := hE.len
    rw [List.length_map] at hal
    refine ⟨_, rfl, _, rfl, x, rfl, Nat.le_trans hx (by decide), _, _, rfl, rfl, _, rfl, ?_⟩
    by_cases hlt : pl < x.length
    rotate_left
    · rw [decide_eq_false (by omega)]
      refine iteF ?_
      have ed : x.cps.toList.drop pl = [] := List.drop_eq_nil_of_le (by omega)
      rw [ed] at hrd
      show tSeq t3' t4' _ _ _
      refine seq_if (fun σ' Hx => σ' = [some (.str x), some (.ref wl), some (.int (pl : Int)), v3, v4, v5] ∧ Hx = H' ∧ ∃ n, ks = [] ∧ pss = [[n]] ∧ readP x.cps.toList = some n) ?_ fun hrest => if_leaf (fun b => (b = true ∧ readP x.cps.toList = none) ∨ (b = false ∧ ∃ n, ks = [] ∧ pss = [[n]] ∧ readP x.cps.toList = some n)) (fun R hR => ?_) (fun h1 => ?_) (fun h0 => h0.elim (fun z => by cases z.1) fun z => hrest _ _ ⟨rfl, rfl, z.2⟩)
      rotate_left
      · refine ⟨_, rfl, wl, _, rfl, .inl (SqL.of eW), rfl, _, rfl, ?_⟩
        cases ks with
        | cons k ks =>
          rw [decide_eq_false (p := V.int _ = V.int 1) (fun z => by have := V.int.inj z; simp at this hel; omega)]
          refine iteT (hR _ (.inl ⟨rfl, gone ?_⟩))
          rw [← hrd]
          exact read_done (by simp [stepR])
        | nil =>
          obtain ⟨⟨e, a⟩, rfl⟩ := List.length_eq_one_iff.mp hel
          obtain ⟨p, rfl⟩ := List.length_eq_one_iff.mp (hal.symm.trans hel)
          obtain ⟨⟨vs, ea, hns⟩, _⟩ := hF
          have hvl := hns.len
          have hG : readG true x.cps.toList [] [[]] = some p := by rw [← hrd]; exact read_done rfl
          refine iteF ⟨_, rfl, wl, _, 0, V.ref e, rfl, rfl, SqL.of eW, rfl, e, _, 1, _, rfl, rfl, SqL.of hE.top, rfl, a, _, rfl, .inl (SqL.of ea), rfl, _, rfl, ?_⟩
          by_cases hp1 : p.length = 1
          · obtain ⟨n, rfl⟩ := List.length_eq_one_iff.mp hp1
            rw [decide_eq_true (show V.int (vs.length : Int) = V.int 1 by rw [show vs.length = 1 by omega]; rfl)]
            refine iteF ⟨_, rfl, rfl, x, ".", rfl, rfl, _, _, rfl, rfl, _, rfl, ?_⟩
            rw [count_dots]
            by_cases hd : dots x.cps.toList ≤ 60
            · rw [decide_eq_false (by omega)]
              exact hR _ (.inr ⟨rfl, n, rfl, rfl, readP_law.mpr ⟨hG, hd⟩⟩)
            · rw [decide_eq_true (by omega)]
              refine hR _ (.inl ⟨rfl, ?_⟩)
              cases e : readP x.cps.toList with
              | none => rfl
              | some n => exact absurd (readP_law.mp e).2 hd
          · rw [decide_eq_false (p := V.int (vs.length : Int) = V.int 1) (fun z => hp1 (by have := V.int.inj z; omega))]
            refine iteT (hR _ (.inl ⟨rfl, ?_⟩))
            cases e : readP x.cps.toList with
            | none => rfl
            | some n =>
              have := (readP_law.mp e).1
              rw [hG] at this
              cases this
              exact absurd rfl hp1
      · rcases h1 with ⟨_, h1⟩ | ⟨h1, _⟩
        · exact ⟨(by show 0 ≤ sizeLine; omega), fun l hl => qN h1 l _ upd_same (sx.trans (same_upd hl))⟩
        · cases h1
      · rintro σ' Hx ⟨rfl, rfl, n, rfl, rfl, hn⟩
        obtain ⟨⟨e, a⟩, rfl⟩ := List.length_eq_one_iff.mp hel
        obtain ⟨⟨vs, ea, hns⟩, _⟩ := hF
        obtain ⟨v, vr, ev, hv, hvr⟩ := hns
        have hvr : vr = [] := hvr
        subst hvr
        subst ev
        exact ⟨_, rfl, wl, _, 0, V.ref e, rfl, rfl, SqL.of eW, rfl, e, _, 1, _, rfl, rfl, SqL.of hE.top, rfl, q n hn a v _ ea hv sx⟩
    · rw [decide_eq_true (by omega)]
      refine iteT ?_
      obtain ⟨c, hc⟩ : ∃ c, x.cps.toList[pl]? = some c := ⟨_, List.getElem?_eq_getElem (by omega)⟩
      obtain ⟨r, hr'⟩ : ∃ r, x.cps.toList.drop pl = c :: r := by
        obtain ⟨h1, h2⟩ := List.getElem?_eq_some_iff.mp hc
        exact ⟨_, by rw [List.drop_eq_getElem_cons h1, h2]⟩
      have hr1 : x.cps.toList.drop (pl + 1) = r := by rw [← List.drop_drop, hr']; rfl
      refine ⟨fun σ' H2 => ∃ m', m' < x.length - pl ∧ W m' σ' H2, fun σ' H2 h => h, ?_⟩
      refine ⟨_, rfl, _, rfl, _, rfl, _, rfl, _, _, rfl, rfl, ((pl + 2 : Nat) : Int), rfl, x, rfl, Nat.le_trans hx (by decide), ?_⟩
      have hop := slice_ss x pl (pl + 2) hpl
      rw [show pl + 2 - pl = 2 by omega, hr'] at hop
      generalize Txt.slice x (some (pl : Int)) (some ((pl + 2 : Nat) : Int)) = op at hop ⊢
      refine ⟨(by show 2 ≤ sizeLine; decide), fun t1 ht1 => ?_⟩
      have s3 := same_upd (o := .lst [V.str "(+", V.str "(-"]) ht1
      have et1 : (upd H' t1 (.lst [V.str "(+", V.str "(-"])) t1 = some (.lst [V.str "(+", V.str "(-"]) := upd_same
      have eW3 := s3 _ _ eW
      have hE3 := hE.mono s3
      have hF3 := hF.mono s3
      have sx3 := sx.trans s3
      generalize upd H' t1 (.lst [V.str "(+", V.str "(-"]) = H3 at s3 et1 eW3 hE3 hF3 sx3 ⊢
      refine ⟨t1, _, rfl, .inl (SqL.of et1), rfl, rfl, _, rfl, ?_⟩
      have hks' : ks.length ≤ 3000 := by omega
      have hes' : es.length ≤ 3001 := by omega
      by_cases hin : ∃ k, op = opS k
      · rw [show (if false = true then !inV (V.str op) [V.str "(+", V.str "(-"] else inV (V.str op) [V.str "(+", V.str "(-"]) = true from in_open.mpr hin]
        obtain ⟨k, rfl⟩ := hin
        rw [opS_cps] at hop
        obtain ⟨r', hrr⟩ := two_is hop.symm
        have hd2 : x.cps.toList.drop (pl + 2) = r' := by rw [← List.drop_drop, hr', hrr]; rfl
        have hpl2 : pl + 2 ≤ x.length := by
          have := congrArg List.length (hr'.trans hrr)
          rw [List.length_drop, List.length_cons, List.length_cons] at this
          omega
        have hc1 : x.cps.toList[pl + 1]? = some (if k then 43 else 45) := by
          have := congrArg (fun l => l[1]?) (hr'.trans hrr)
          simpa [List.getElem?_drop] using this
        have hcS : (⟨#[if k then 43 else 45]⟩ : Str) = kS k := by cases k <;> decide +kernel
        refine iteT ⟨_, rfl, .inl ⟨rfl, _, SqL.of eW3⟩, _, rfl, _, rfl, _, _, rfl, rfl, x, ((pl + 1 : Nat) : Int), _, rfl, rfl, Nat.le_trans hx (by decide), atI_nat hc1, (by show 0 ≤ sizeLine; omega), fun a1 ha1 => ⟨(by show 2 ≤ sizeLine; decide), fun e1 he1 => ?_⟩⟩
        rw [hcS]
        have s4 := (same_upd (o := .lst []) ha1).trans (same_upd (o := .lst [V.str (kS k), V.ref a1]) he1)
        have n1e : a1 ≠ e1 := ne_of_none (upd_same (H := H3) (a := a1) (o := .lst [])) he1
        have ea1 : (upd (upd H3 a1 (.lst [])) e1 (.lst [V.str (kS k), V.ref a1])) a1 = some (.lst []) := by rw [upd_ne n1e]; exact upd_same
        have ee1 : (upd (upd H3 a1 (.lst [])) e1 (.lst [V.str (kS k), V.ref a1])) e1 = some (.lst [V.str (kS k), V.ref a1]) := upd_same
        have n1w : a1 ≠ wl := (ne_of_none eW3 ha1).symm
        have new1 : e1 ≠ wl := (ne_of_none (same_upd ha1 _ _ eW3) he1).symm
        have h1a : H a1 = none := sx3.free ha1
        have n1as : a1 ∉ es.map (·.2) := hF3.not_in ha1
        have n1es : a1 ∉ es.map (·.1) := hE3.not_in ha1
        have he1' : H3 e1 = none := (same_upd ha1).free he1
        have m1as : e1 ∉ es.map (·.2) := hF3.not_in he1'
        have eW4 := s4 _ _ eW3
        have hE4 := hE3.mono s4
        have hF4 := hF3.mono s4
        have sx4 := sx3.trans s4
        generalize upd (upd H3 a1 (.lst [])) e1 (.lst [V.str (kS k), V.ref a1]) = H4 at s4 ea1 ee1 eW4 hE4 hF4 sx4 ⊢
        refine ⟨wl, _, _, rfl, rfl, eW4, line3000 (by simp; omega), ?_⟩
        refine ⟨_, rfl, _, _, rfl, rfl, ?_⟩
        refine gname_go ?_
        dsimp only [List.set]
        refine ⟨_, rfl, _, _, rfl, rfl, ?_⟩
        refine gname_go ?_
        dsimp only [List.set]
        have hew : ∀ z ∈ es, z.1 ≠ wl ∧ z.2 ≠ wl := fun z hz => ⟨(hfr z hz).2.1, (hfr z hz).2.2.1⟩
        refine ⟨x.length - (pl + 2), by omega, pl + 2, k :: ks, (e1, a1) :: es, [] :: pss, _, _, _, by rw [show (pl : Int) + 1 + 1 = ((pl + 2 : Nat) : Int) by omega], sW _ _ sx4, ?_, ?_, ⟨⟨[], ?_, rfl⟩, FrA.upd eW4 (fun z => ?_) hF4⟩, List.nodup_cons.mpr ⟨n1as, hnd⟩, ?_, hpl2, by simp; omega, ?_, ?_, rfl⟩
        · rw [upd_same]
          simp
        · have hE5 : EnA (upd H4 wl (.lst ((es.reverse.map fun e => V.ref e.1) ++ [V.ref e1]))) es ks := EnA.upd (fun z => by
            obtain ⟨y, hy, hy2⟩ := List.mem_map.mp z
            exact (hew y hy).1 hy2) hE4
          cases es with
          | nil => cases hE5
          | cons y es => exact ⟨by rw [upd_ne new1]; exact ee1, hE5⟩
        · rw [upd_ne n1w]
          exact ea1
        · obtain ⟨y, hy, hy2⟩ := List.mem_map.mp z
          exact (hew y hy).2 hy2
        · intro z hz
          rcases List.mem_cons.mp hz with h | h
          · subst h
            exact ⟨h1a, new1, n1w, fun hm => by
              rcases List.mem_cons.mp hm with h | h
              · exact n1e h.symm
              · exact m1as h⟩
          · obtain ⟨z1, z2, z3, z4⟩ := hfr z h
            refine ⟨z1, z2, z3, fun hm => ?_⟩
            rcases List.mem_cons.mp hm with h' | h'
            · exact n1es (List.mem_map.mpr ⟨z, h, h'⟩)
            · exact z4 h'
        · rw [← hrd, hr', hrr, hd2]
          exact (read_more (step_open true k r' ks pss)).symm
        · rw [hd2]
          rw [hr', hrr, pts_cons, pts_cons] at hsum
          simp
          omega
      · rw [show (if false = true then !inV (V.str op) [V.str "(+", V.str "(-"] else inV (V.str op) [V.str "(+", V.str "(-"]) = false from by rw [if_neg (by decide)]; exact Bool.eq_false_iff.mpr fun z => hin (in_open.mp z)]
        refine iteF ?_
        have hno : ∀ (k : Bool) (r' : List Nat), c :: r ≠ 40 :: (if k then 43 else 45) :: r' := fun k r' z => hin ⟨k, str_ext (by rw [hop, z, opS_cps]; rfl)⟩
        refine ⟨_, rfl, _, rfl, x, (pl : Int), c, rfl, rfl, Nat.le_trans hx (by decide), atI_nat hc, rfl, _, rfl, ?_⟩
        obtain ⟨⟨e, a⟩, es, rfl⟩ : ∃ y es', es = y :: es' := match es, hel with | y :: es', _ => ⟨y, es', rfl⟩ | [], h => absurd h (by simp)
        obtain ⟨p, pss, rfl⟩ : ∃ p pss', pss = p :: pss' := match pss, hal with | p :: pss', _ => ⟨p, pss', rfl⟩ | [], h => absurd h (by simp)
        obtain ⟨⟨vs, ea, hns⟩, hFr⟩ := hF3
        obtain ⟨ha1, ha2⟩ := List.nodup_cons.mp hnd
        obtain ⟨hf1, hf2, hf3, hf4⟩ := hfr (e, a) (.head _)
        have hvl := hns.len
        have htop := hE3.top
        have eW3' : H3 wl = some (.lst ((es.reverse.map fun e => V.ref e.1) ++ [V.ref e])) := by rw [eW3]; simp
        have hea : ∀ z ∈ (e, a) :: es, z.1 ≠ a := fun z hz h => (hfr z hz).2.2.2 (h ▸ .head _)
        have hane : a ∉ ((e, a) :: es).map (·.1) := fun z => by
          obtain ⟨y, hy, hy2⟩ := List.mem_map.mp z
          exact hea y hy hy2
        by_cases h46 : c = 46
        · subst h46
          rw [decide_eq_true (show V.str ⟨#[46]⟩ = V.str (Str.ofString ".") from rfl)]
          have hsum' := hsum
          rw [hr', pts_cons, if_pos (.inl rfl), List.map_cons, List.sum_cons] at hsum'
          refine iteT ⟨_, rfl, 1, rfl, wl, _, -1, V.ref e, rfl, rfl, SqL.of eW3', atI_last _ _, e, _, 1, _, rfl, rfl, SqL.of htop, rfl, .inl ⟨rfl, _, SqL.of ea⟩, a, _, _, rfl, rfl, ea, small1000 (by omega), ?_⟩
          refine ⟨_, rfl, _, _, rfl, rfl, ?_⟩
          refine gname_go ?_
          dsimp only [List.set]
          refine ⟨x.length - (pl + 1), by omega, pl + 1, ks, (e, a) :: es, (p ++ [.word]) :: pss, _, _, _, by rw [show (pl : Int) + 1 = ((pl + 1 : Nat) : Int) by omega], ?_, ?_, EnA.upd hane hE3, ⟨⟨vs ++ [V.non], upd_same, NestsAt.app (NestsAt.updL ea hns) (NestsAt.one (n := .word) rfl)⟩, FrA.upd ea ha1 hFr⟩, hnd, hfr, by omega, by omega, ?_, ?_, rfl⟩
          · intro b ob e
            rw [upd_ne (ne_of_none e hf1)]
            exact sx3 b ob e
          · rw [upd_ne hf3.symm]
            exact eW3
          · rw [← hrd, hr', hr1]
            exact (read_more (show stepR true (46 :: r) ks (p :: pss) = _ from rfl)).symm
          · rw [hr1]
            simp
            omega
        · rw [decide_eq_false (p := V.str ⟨#[c]⟩ = V.str (Str.ofString ".")) (fun z => h46 (one_is.mp (V.str.inj z)))]
          refine iteF ?_
          refine if_leaf (fun b => b = decide (c = 41 ∧ ks ≠ [])) (fun R hR => ?_) (fun h1 => ?_) (fun h0 => ?_)
          · refine ⟨_, rfl, _, rfl, x, (pl : Int), c, rfl, rfl, Nat.le_trans hx (by decide), atI_nat hc, rfl, _, rfl, ?_⟩
            by_cases h41 : c = 41
            · subst h41
              rw [decide_eq_true (show V.str ⟨#[41]⟩ = V.str (Str.ofString ")") from rfl)]
              refine iteT ⟨_, rfl, wl, _, rfl, .inl (SqL.of eW3), _, _, rfl, rfl, _, rfl, hR _ ?_⟩
              cases ks with
              | nil =>
                have : es = [] := List.length_eq_zero_iff.mp (by simpa using hel)
                subst this
                simp
              | cons k ks =>
                simp at hel ⊢
                omega
            · rw [decide_eq_false (p := V.str ⟨#[c]⟩ = V.str (Str.ofString ")")) (fun z => h41 (one_is.mp (V.str.inj z)))]
              refine iteF (hR _ ?_)
              simp [h41]
          · have h1 := of_decide_eq_true h1.symm
            obtain ⟨rfl, hkne⟩ := h1
            obtain ⟨k, ks, rfl⟩ : ∃ k ks', ks = k :: ks' := match ks, hkne with | k :: ks', _ => ⟨k, ks', rfl⟩ | [], h => absurd rfl h
            obtain ⟨⟨e2, b⟩, es, rfl⟩ : ∃ y es', es = y :: es' := match es, hel with | y :: es', _ => ⟨y, es', rfl⟩ | [], h => absurd h (by simp)
            obtain ⟨p2, pss, rfl⟩ : ∃ p2 pss', pss = p2 :: pss' := match pss, hal with | p2 :: pss', _ => ⟨p2, pss', rfl⟩ | [], h => absurd h (by simp)
            obtain ⟨⟨ws, eb, hns2⟩, hFr2⟩ := hFr
            obtain ⟨hb1, hb2⟩ := List.nodup_cons.mp ha2
            obtain ⟨hg1, hg2, hg3, hg4⟩ := hfr (e2, b) (.tail _ (.head _))
            have hwl := hns2.len
            have hE2 : EnA H3 ((e2, b) :: es) ks := hE3.2
            have htop2 := hE2.top
            have hsum' := hsum
            rw [hr', pts_cons, if_pos (.inr rfl), List.map_cons, List.sum_cons, List.map_cons, List.sum_cons] at hsum'
            refine ⟨_, rfl, .inl ⟨rfl, _, SqL.of eW3'⟩, wl, _, V.ref e, rfl, rfl, eW3', (by simp), ?_⟩
            rw [List.dropLast_concat]
            have hwE : ∀ z ∈ ((e2, b) :: es), z.1 ≠ wl ∧ z.2 ≠ wl := fun z hz => ⟨(hfr z (.tail _ hz)).2.1, (hfr z (.tail _ hz)).2.2.1⟩
            have eW4 : (upd H3 wl (.lst (((e2, b) :: es).reverse.map fun e => V.ref e.1))) wl = some (.lst ((es.reverse.map fun e => V.ref e.1) ++ [V.ref e2])) := by rw [upd_same]; simp
            have ee4 : (upd H3 wl (.lst (((e2, b) :: es).reverse.map fun e => V.ref e.1))) e = some (.lst [V.str (kS k), V.ref a]) := by rw [upd_ne hf2]; exact htop
            have ea4 : (upd H3 wl (.lst (((e2, b) :: es).reverse.map fun e => V.ref e.1))) a = some (.lst vs) := by rw [upd_ne hf3]; exact ea
            have hns4 := NestsAt.updL (vs := ((e2, b) :: es).reverse.map fun e => V.ref e.1) eW3 hns
            have hE4 : EnA (upd H3 wl (.lst (((e2, b) :: es).reverse.map fun e => V.ref e.1))) ((e2, b) :: es) ks := EnA.upd (fun z => by
              obtain ⟨y, hy, hy2⟩ := List.mem_map.mp z
              exact (hwE y hy).1 hy2) hE2
            have hF4 : FrA K (upd H3 wl (.lst (((e2, b) :: es).reverse.map fun e => V.ref e.1))) (((e2, b) :: es).map (·.2)) (p2 :: pss) := FrA.upd eW3 (fun z => by
              obtain ⟨y, hy, hy2⟩ := List.mem_map.mp z
              exact (hwE y hy).2 hy2) ⟨⟨ws, eb, hns2⟩, hFr2⟩
            have sx4 := sW _ (.lst (((e2, b) :: es).reverse.map fun e => V.ref e.1)) sx3
            generalize upd H3 wl (.lst (((e2, b) :: es).reverse.map fun e => V.ref e.1)) = H4 at eW4 ee4 ea4 hns4 hE4 hF4 sx4 ⊢
            refine ⟨e, _, rfl, SqL.of ee4, rfl, _, _, rfl, _, _, rfl, rfl, ?_⟩
            have htop4 := hE4.top
            refine ⟨_, rfl, _, rfl, _, rfl, 1, rfl, wl, _, -1, V.ref e2, rfl, rfl, SqL.of eW4, atI_last _ _, e2, _, 0, _, rfl, rfl, SqL.of htop4, rfl, k, ks, a, vs, p, rfl, ea4, by omega, hns4, fun hcl => ?_, fun hcl t H5 hnt s5 => ?_⟩
            · refine gname_go ?_
              refine ⟨_, rfl, rfl, _, rfl, iteT ⟨(by show 0 ≤ sizeLine; omega), fun l hl => qN (gone ?_) l _ upd_same (sx4.trans (same_upd hl))⟩⟩
              rw [← hrd, hr']
              refine read_done ?_
              show (if true = true ∧ (p.length < 2 ∨ ks.head? = some k) then RSt.done none else _) = _
              rw [if_pos ⟨rfl, hcl⟩]
            · refine gname_go ?_
              refine ⟨_, rfl, rfl, _, rfl, iteF ?_⟩
              have eW5 := s5 _ _ eW4
              obtain ⟨⟨ws5, eb5, hns5⟩, hFr5⟩ := hF4.mono s5
              have hE5 := hE4.mono s5
              have hwl5 := hns5.len
              refine ⟨_, rfl, 1, rfl, wl, _, -1, V.ref e2, rfl, rfl, SqL.of eW5, atI_last _ _, e2, _, 1, _, rfl, rfl, SqL.of hE5.top, rfl, .inl ⟨rfl, _, SqL.of eb5⟩, _, rfl, b, _, _, rfl, rfl, eb5, small1000 (by omega), ?_⟩
              refine ⟨_, rfl, _, _, rfl, rfl, ?_⟩
              refine gname_go ?_
              dsimp only [List.set]
              have hbne : b ∉ ((e2, b) :: es).map (·.1) := fun z => by
                obtain ⟨y, hy, hy2⟩ := List.mem_map.mp z
                exact (hfr y (.tail _ hy)).2.2.2 (hy2 ▸ .tail _ (.head _))
              refine ⟨x.length - (pl + 1), by omega, pl + 1, ks, (e2, b) :: es, (p2 ++ [mkN k p]) :: pss, _, _, _, by rw [show (pl : Int) + 1 = ((pl + 1 : Nat) : Int) by omega], ?_, ?_, EnA.upd hbne hE5, ⟨⟨_, upd_same, NestsAt.app (NestsAt.updL eb5 hns5) (NestsAt.one (NestAt.updL eb5 ?_))⟩, FrA.upd eb5 hb1 hFr5⟩, ha2, fun z hz => ?_, by omega, by simp at hks; omega, ?_, ?_, rfl⟩
              · intro b' ob e
                rw [upd_ne (ne_of_none e hg1)]
                exact s5 _ _ (sx4 b' ob e)
              · rw [upd_ne hg3.symm, eW5]
                simp
              · unfold mkN
                rw [if_neg (fun z => hcl (.inl z))]
                exact hnt
              · obtain ⟨z1, z2, z3, z4⟩ := hfr z (.tail _ hz)
                exact ⟨z1, z2, z3, fun hm => z4 (.tail _ hm)⟩
              · rw [← hrd, hr', hr1]
                refine (read_more ?_).symm
                show (if true = true ∧ (p.length < 2 ∨ ks.head? = some k) then RSt.done none else _) = _
                rw [if_neg (fun z => hcl z.2)]
              · rw [hr1]
                simp
                omega
          · have h0 := of_decide_eq_false h0.symm
            refine ⟨(by show 0 ≤ sizeLine; omega), fun l hl => qN (gone ?_) l _ upd_same (sx3.trans (same_upd hl))⟩
            rw [← hrd, hr', read_done (step_no hno h46 fun z => by
              cases ks with
              | nil => rfl
              | cons k ks => exact absurd ⟨z, by simp⟩ h0)]
abbrev ns_law_text : List Str := ["nest", "found", "pile", "here", "part"]
theorem sc_law_text : FnScope ns_law_text ["nest"] (defScope s_law_text) := ⟨rfl, rfl, rfl, by decide +kernel, rfl, by decide +kernel, by decide +kernel⟩
theorem ok_text (D : Def K mg "_law_text" s_law_text ["nest"]) (T : Txt mg) : Has P w K mg base CX0 1 "_law_text" ["nest"] (spText K) := by
  refine D.ok sc_law_text (fun vs H Q E h => ?_) (fun f cdv A outer s H vs Q E hr h => ?_)
  · obtain ⟨v, n, rfl, _⟩ := h; rfl
  · obtain ⟨v, n, rfl, hN, hv, hw, q⟩ := h
    refine go_c (ps_set (i := 1) sc_law_text.nd rfl (Or.inl rfl) (pe_lst pa_nil)) ?_
    intro t0'
    refine go_c (ps_set (i := 2) sc_law_text.nd rfl (Or.inl rfl) (pe_lst (pa_cons (pv 0) pa_nil))) ?_
    intro t1'
    refine go_c (ps_while PassesOwn.never (pt_cmpR (op_neL hr.units0) (pv 2) (pe_lst pa_nil) (nomark _)) (pss_cons (ps_set (i := 3) sc_law_text.nd rfl (Or.inl rfl) (pe_bm0 PySem.F.plainAttrs_list PySem.F.slot_list_pop PySem.F.type_list_pop mt_pop (pv 2)))
      (pss_one (ps_if (pt_cmpR op_isN (pv 3) pe_non (nomark _)) (pss_one (ps_expr (pe_bm PySem.F.plainAttrs_list PySem.F.slot_list_append PySem.F.type_list_append mt_append (pv 1) (pa_cons pe_str pa_nil)))) (pss_one (ps_if (pt_cmpR (op_eqB hr.units0) (pv 3) pe_str (nomark _)) (pss_one (ps_expr (pe_bm PySem.F.plainAttrs_list PySem.F.slot_list_append PySem.F.type_list_append mt_append (pv 1) (pa_cons pe_str pa_nil)))) (pss_cons (ps_expr (pe_bm PySem.F.plainAttrs_list PySem.F.slot_list_append PySem.F.type_list_append mt_append (pv 1) (pa_cons (pe_op op_add_str pe_str (pe_ix ix_tup (pv 3) pe_int (fun _ _ => rfl))) pa_nil)))
      (pss_cons (ps_expr (pe_bm PySem.F.plainAttrs_list PySem.F.slot_list_append PySem.F.type_list_append mt_append (pv 2) (pa_cons pe_str pa_nil)))
      (pss_one (ps_for PassesOwn.never rfl (pi_tup (pe_revT (pe_ix ix_tup (pv 3) pe_int (fun _ _ => rfl)) (pe_un un_neg pe_int))) (pg_name (i := 4) sc_law_text.nd rfl (Or.inl rfl)) (pss_one (ps_expr (pe_bm PySem.F.plainAttrs_list PySem.F.slot_list_append PySem.F.type_list_append mt_append (pv 2) (pa_cons (pv 4) pa_nil)))))))))))))) ?_
    intro t2'
    refine go_1 (ps_ret (pe_bm PySem.F.plainAttrs_str PySem.F.slot_str_join PySem.F.type_str_join mt_join pe_str (pa_cons (pv 1) pa_nil))) ?_
    intro t3'
    have hf := NestAt.fit hN hv
    have hlen := tx_len hf
    refine ⟨(by show 0 ≤ sizeLine; omega), fun fl hfl => ?_⟩
    have s1 := same_upd (o := .lst []) hfl
    have e1 : (upd H fl (.lst [])) fl = some (.lst (([] : List Str).map V.str)) := upd_same
    generalize upd H fl (.lst []) = H1 at s1 e1 ⊢
    refine gname_go ?_
    refine ⟨_, rfl, (by show 1 ≤ sizeLine; decide), fun wl hwl => ?_⟩
    have w0 : H wl = none := s1.free hwl
    have nfl : fl ≠ wl := ne_of_none e1 hwl
    have sU : ∀ (G : Hp) (o : HO), Same H G → Same H (upd G wl o) := fun G o h b ob e => by rw [upd_ne (ne_of_none e w0)]; exact h b ob e
    have sF : ∀ (G : Hp) (o : HO), Same H G → Same H (upd G fl o) := fun G o h b ob e => by rw [upd_ne (ne_of_none e hfl)]; exact h b ob e
    refine gname_go ?_
    dsimp only [List.set]
    let W : Nat → L2.St → Hp → Prop := fun m σ H' => ∃ (is : List (Option Nest)) (us : List V) (xs : List Str) (v3 v4 : Option V), σ = [some v, some (.ref fl), some (.ref wl), v3, v4] ∧ Same H H' ∧ H' wl = some (.lst us.reverse) ∧ ItA K H' is us ∧ itV is ∧ H' fl = some (.lst (xs.map V.str)) ∧ (xs.flatMap fun t => t.cps.toList) ++ itx is = txN n ∧ xs.length ≤ (xs.flatMap fun t => t.cps.toList).length ∧ m = itS is
    refine ⟨W, ⟨_, [some n], [v], [], none, none, rfl, sU _ _ s1, upd_same, ⟨v, [], rfl, (hN.mono s1).mono (same_upd hwl), rfl⟩, ?_, same_upd hwl _ _ e1, ?_, Nat.le_refl _, rfl⟩, ?_⟩
    · intro m hm
      have : m = n := by simpa using hm
      subst this
      exact ⟨hf, none, hv⟩
    · simp [itx]
    rintro m σ H' ⟨is, us, xs, v3, v4, rfl, sx, eW, hI, hV, eF, htx, hxl, rfl⟩
    have hil := hI.len
    have hle := it_len hV
    have htl := congrArg List.length htx
    rw [List.length_append] at htl
    refine ⟨_, rfl, (by show 0 ≤ sizeLine; omega), fun e0 he0 => ?_⟩
    have s0 : Same H' (upd H' e0 (.lst [])) := same_upd he0
    refine ⟨wl, e0, _, _, rfl, rfl, SqL.of (s0 _ _ eW), SqL.of upd_same, ?_⟩
    have eW0 := s0 _ _ eW
    have eF0 := s0 _ _ eF
    have hI0 := hI.mono s0
    have sx0 := sx.trans s0
    generalize upd H' e0 (.lst []) = H0 at s0 eW0 eF0 hI0 sx0 ⊢
    cases is with
    | nil =>
      have e1 : us = [] := hI
      subst e1
      refine .inr ⟨true, rfl, _, rfl, iteF ?_⟩
      refine ⟨rfl, _, rfl, "", fl, xs, rfl, rfl, SqL.of eF0, ?_, ?_⟩
      · rw [sum_len]
        show _ + _ * 0 ≤ _
        omega
      · rw [show Txt.join "" xs = txS n from str_ext (by rw [join_empty, txS_cps, ← htx]; simp [itx])]
        exact q _ sx0
    | cons i is =>
      obtain ⟨u, ur, rfl, hur⟩ : ∃ u ur, us = u :: ur ∧ ItA K H0 is ur := by
        cases i with
        | none => obtain ⟨ur, e, h⟩ := hI0; exact ⟨_, ur, e, h⟩
        | some n => obtain ⟨v, ur, e, _, h⟩ := hI0; exact ⟨v, ur, e, h⟩
      rw [List.reverse_cons] at eW0
      refine .inl ⟨by simp, _, rfl, iteT ?_⟩
      refine ⟨fun σ' H2 => ∃ m', m' < itS (i :: is) ∧ W m' σ' H2, fun σ' H2 h => h, ?_⟩
      refine ⟨_, rfl, .inl ⟨rfl, _, SqL.of eW0⟩, wl, _, u, rfl, rfl, eW0, (by simp), ?_⟩
      rw [List.dropLast_concat]
      have eW1 : (upd H0 wl (.lst ur.reverse)) wl = some (.lst ur.reverse) := upd_same
      have eF1 : (upd H0 wl (.lst ur.reverse)) fl = some (.lst (xs.map V.str)) := by rw [upd_ne nfl]; exact eF0
      have sx1 := sU _ (.lst ur.reverse) sx0
      have hI1 := ItA.updL (vs := ur.reverse) eW0 hI0
      have hur1 := ItA.updL (vs := ur.reverse) eW0 hur
      generalize upd H0 wl (.lst ur.reverse) = G at eW1 eF1 sx1 hI1 hur1 ⊢
      refine gname_go ?_
      dsimp only [List.set]
      have hVr : itV is := fun m hm => hV m (.tail _ hm)
      have put : ∀ (y : Str), 1 ≤ y.length → y.cps.toList ++ itx is = itx (i :: is) → ∀ σ' , σ' = [some v, some (.ref fl), some (.ref wl), some u, v4] → ∃ m', m' < itS (i :: is) ∧ W m' σ' (upd G fl (.lst (xs.map V.str ++ [V.str y]))) := fun y hy1 hy2 σ' hσ => by
        refine ⟨itS is, by cases i with | none => simp [itS] | some n => have := size_pos n; simp only [itS]; omega, is, ur, xs ++ [y], _, _, hσ, sF _ _ sx1, by rw [upd_ne nfl.symm]; exact eW1, ItA.updL eF1 hur1, hVr, by rw [upd_same, List.map_append]; rfl, ?_, ?_, rfl⟩
        · rw [List.flatMap_append, List.append_assoc, ← htx]
          congr 1
          simpa using hy2
        · have : y.cps.toList.length = y.length := by simp [Str.length]
          rw [List.flatMap_append, List.length_append, List.length_append]
          simp [this]
          simp at hxl
          omega
      cases i with
      | none =>
        obtain ⟨ur', e, _⟩ := hI1
        cases e
        refine ⟨_, rfl, rfl, _, rfl, iteF ?_⟩
        refine ⟨_, rfl, _, rfl, .inr (.inr ⟨_, rfl, _, rfl, iteT ?_⟩)⟩
        exact ⟨_, rfl, .inl ⟨rfl, _, SqL.of eF1⟩, fl, _, _, rfl, rfl, eF1, small1000 (by rw [List.length_map]; omega), put ")" (by decide) rfl _ rfl⟩
      | some n' =>
        obtain ⟨v', ur', e, hn', _⟩ := hI1
        cases e
        obtain ⟨hf', o', hv'⟩ := hV n' (.head _)
        cases n' with
        | word =>
          have hu : u = .non := hn'
          subst hu
          refine ⟨_, rfl, rfl, _, rfl, iteT ?_⟩
          exact ⟨_, rfl, .inl ⟨rfl, _, SqL.of eF1⟩, fl, _, _, rfl, rfl, eF1, small1000 (by rw [List.length_map]; omega), put "." (by decide) rfl _ rfl⟩
        | bad => exact absurd hv' (by simp [valid])
        | knot k ps =>
          obtain ⟨a, b, us2, rfl, ea, eb, hu2, hu3, hps⟩ := hn'
          have hpl := hps.len
          have hfl' : fitL ps = true := by simp only [fit, Bool.and_eq_true] at hf'; exact hf'.2
          have hvl' : validL k ps = true := by simp only [valid, Bool.and_eq_true] at hv'; exact hv'.2
          have k1 : (kS k).length = 1 := by cases k <;> decide +kernel
          refine ⟨_, rfl, rfl, _, rfl, iteF ?_⟩
          refine ⟨_, rfl, _, rfl, .inr (.inl ⟨a, _, rfl, SqT.of ea, _, rfl, iteF ?_⟩)⟩
          have hitl : (itx (some (Nest.knot k ps) :: is)).length = (txL ps).length + 3 + (itx is).length := by simp [itx, txN]; omega
          have hpn : ps.length ≤ (txL ps).length := by
            have := it_len (is := ps.map some) (fun m hm => by
              obtain ⟨m', h1, h2⟩ := List.mem_map.mp hm
              cases h2
              exact ⟨fitL_mem hfl' h1, some k, validL_mem hvl' h1⟩)
            rw [itx_nests, List.length_map] at this
            exact this
          have hisl := it_len hVr
          have hurl := hur1.len
          refine ⟨_, rfl, .inl ⟨rfl, _, SqL.of eF1⟩, _, rfl, a, _, 0, _, rfl, rfl, SqT.of ea, rfl, _, _, rfl, rfl, (by rw [k1]; decide), fl, _, _, rfl, rfl, eF1, small1000 (by rw [List.length_map]; omega), ?_⟩
          have eF2 : (upd G fl (.lst (xs.map V.str ++ [V.str (("(" : Str) ++ kS k)]))) fl = some (.lst ((xs ++ [("(" : Str) ++ kS k]).map V.str)) := by rw [upd_same, List.map_append]; rfl
          have eW2 : (upd G fl (.lst (xs.map V.str ++ [V.str (("(" : Str) ++ kS k)]))) wl = some (.lst ur.reverse) := by rw [upd_ne nfl.symm]; exact eW1
          have sx2 := sF _ (.lst (xs.map V.str ++ [V.str (("(" : Str) ++ kS k)])) sx1
          have hur2 := ItA.updL (vs := xs.map V.str ++ [V.str (("(" : Str) ++ kS k)]) eF1 hur1
          have ea2 : (upd G fl (.lst (xs.map V.str ++ [V.str (("(" : Str) ++ kS k)]))) a = some (.tup [.str (kS k), .ref b]) := by rw [upd_ne (ne_of ea eF1 (by intro z; cases z))]; exact ea
          have eb2 : (upd G fl (.lst (xs.map V.str ++ [V.str (("(" : Str) ++ kS k)]))) b = some (.tup us2) := by rw [upd_ne (ne_of eb eF1 (by intro z; cases z))]; exact eb
          have hps2 := NestsAt.updL (vs := xs.map V.str ++ [V.str (("(" : Str) ++ kS k)]) eF1 hps
          generalize upd G fl (.lst (xs.map V.str ++ [V.str (("(" : Str) ++ kS k)])) = G2 at eF2 eW2 sx2 hur2 ea2 eb2 hps2 ⊢
          refine ⟨_, rfl, .inl ⟨rfl, _, SqL.of eW2⟩, wl, _, _, rfl, rfl, eW2, small1000 (by simp; omega), ?_⟩
          have eW3 : (upd G2 wl (.lst (ur.reverse ++ [V.str (Str.ofString ")")]))) wl = some (.lst (ur.reverse ++ [V.str (Str.ofString ")")])) := upd_same
          have eF3 : (upd G2 wl (.lst (ur.reverse ++ [V.str (Str.ofString ")")]))) fl = some (.lst ((xs ++ [("(" : Str) ++ kS k]).map V.str)) := by rw [upd_ne nfl]; exact eF2
          have sx3 := sU _ (.lst (ur.reverse ++ [V.str (Str.ofString ")")])) sx2
          have hur3 := ItA.updL (vs := ur.reverse ++ [V.str (Str.ofString ")")]) eW2 hur2
          have ea3 : (upd G2 wl (.lst (ur.reverse ++ [V.str (Str.ofString ")")]))) a = some (.tup [.str (kS k), .ref b]) := by rw [upd_ne (ne_of ea2 eW2 (by intro z; cases z))]; exact ea2
          have eb3 : (upd G2 wl (.lst (ur.reverse ++ [V.str (Str.ofString ")")]))) b = some (.tup us2) := by rw [upd_ne (ne_of eb2 eW2 (by intro z; cases z))]; exact eb2
          have hps3 := NestsAt.updL (vs := ur.reverse ++ [V.str (Str.ofString ")")]) eW2 hps2
          generalize upd G2 wl (.lst (ur.reverse ++ [V.str (Str.ofString ")")])) = G3 at eW3 eF3 sx3 hur3 ea3 eb3 hps3 ⊢
          refine ⟨_, rfl, a, _, 1, _, rfl, rfl, SqT.of ea3, rfl, 1, rfl, rfl, b, us2, rfl, SqT.of eb3, fun tr htr => ?_⟩
          have s4 := same_upd (o := .tup us2.reverse) htr
          have etr : (upd G3 tr (.tup us2.reverse)) tr = some (.tup us2.reverse) := upd_same
          have eW4 := s4 _ _ eW3
          have eF4 := s4 _ _ eF3
          have sx4 := sx3.trans s4
          have hur4 := hur3.mono s4
          have hps4 := NestsAt.mono s4 hps3
          generalize upd G3 tr (.tup us2.reverse) = G4 at s4 etr eW4 eF4 sx4 hur4 hps4 ⊢
          refine ⟨tr, rfl, ⟨_, SqT.of etr⟩, for_tup (K := K) (a := tr) (xs := us2.reverse) (fun i σ Hx => ∃ v4 : Option V, σ = [some v, some (.ref fl), some (.ref wl), some (.ref a), v4] ∧ Same H Hx ∧ Hx tr = some (.tup us2.reverse) ∧ Hx wl = some (.lst (ur.reverse ++ [V.str (Str.ofString ")")] ++ us2.reverse.take i)) ∧ Hx fl = some (.lst ((xs ++ [("(" : Str) ++ kS k]).map V.str)) ∧ ItA K Hx is ur ∧ NestsAt K Hx ps us2) ⟨_, rfl, sx4, etr, by rw [List.take_zero, List.append_nil]; exact eW4, eF4, hur4, hps4⟩ (fun i σ Hx _ ⟨_, _, _, e, _⟩ => SqT.of e) ?_ ?_⟩
          · rintro i y σ Hx hi ⟨v4', rfl, sh, et, eWx, eFx, hx1, hx2⟩
            have hil' : i < us2.length := by have := (List.getElem?_eq_some_iff.mp hi).1; simpa using this
            refine gname_go ?_
            dsimp only [List.set]
            refine ⟨_, rfl, .inl ⟨rfl, _, SqL.of eWx⟩, _, rfl, wl, _, _, rfl, rfl, eWx, small1000 (by simp; omega), ?_⟩
            refine ⟨_, rfl, sU _ _ sh, ?_, ?_, ?_, ItA.updL eWx hx1, NestsAt.updL eWx hx2⟩
            · rw [upd_ne (ne_of et eWx (by intro z; cases z))]
              exact et
            · rw [upd_same, List.append_assoc _ (us2.reverse.take i), List.take_succ, hi]
              rfl
            · rw [upd_ne nfl]
              exact eFx
          · rintro σ Hx ⟨v4', rfl, sh, et, eWx, eFx, hx1, hx2⟩
            rw [List.take_length] at eWx
            have hy : (("(" : Str) ++ kS k).cps.toList = [40, if k then 43 else 45] := by rw [str_cat, kS_cps]; rfl
            refine ⟨itS (ps.map some ++ none :: is), ?_, ps.map some ++ none :: is, us2 ++ V.str (Str.ofString ")") :: ur, xs ++ [("(" : Str) ++ kS k], _, _, rfl, sh, ?_, ItA.nests hx2 ⟨ur, rfl, hx1⟩, ?_, eFx, ?_, ?_, rfl⟩
            · rw [itS_nests]
              simp only [itS, sizeN]
              omega
            · rw [eWx]
              simp
            · intro m hm
              rcases List.mem_append.mp hm with h | h
              · obtain ⟨m', h1, h2⟩ := List.mem_map.mp h
                cases h2
                exact ⟨fitL_mem hfl' h1, some k, validL_mem hvl' h1⟩
              · rcases List.mem_cons.mp h with h | h
                · cases h
                · exact hVr m h
            · rw [← htx, List.flatMap_append, List.append_assoc, itx_app, itx_nests]
              congr 1
              rw [List.flatMap_cons, List.flatMap_nil, hy]
              simp [itx, txN]
            · rw [List.flatMap_append, List.length_append, List.length_append, List.flatMap_cons, List.flatMap_nil, hy]
              simp at hxl ⊢
              omega
abbrev ns_law_spoilt : List Str := ["text", "cell", "some", "sign", "at"]
theorem sc_law_spoilt : FnScope ns_law_spoilt ["text", "cell"] (defScope s_law_spoilt) := ⟨rfl, rfl, rfl, by decide +kernel, rfl, by decide +kernel, by decide +kernel⟩
theorem ok_spoilt (D : Def K mg "_law_spoilt" s_law_spoilt ["text", "cell"]) (T : Txt mg) : Has P w K mg base CX0 1 "_law_spoilt" ["text", "cell"] spSpoilt14 := by
  refine D.ok sc_law_spoilt (fun vs H Q E h => ?_) (fun f cdv A outer s H vs Q E hr h => ?_)
  · obtain ⟨x, c, rfl, _⟩ := h; rfl
  · obtain ⟨x, c, rfl, h1, h2, q⟩ := h
    refine go_c (ps_set (i := 2) sc_law_spoilt.nd rfl (Or.inl rfl) pe_str) ?_
    intro t0'
    refine go_c (ps_set (i := 3) sc_law_spoilt.nd rfl (Or.inl rfl) (pe_ix ix_list (@pe_lst _ _ _ _ (@pa_c _ _ _ _ _ (by exact pe_str) (@pa_c _ _ _ _ _ (by exact pe_str) (@pa_c _ _ _ _ _ (by exact pe_str) (@pa_c _ _ _ _ _ (by exact pe_str) (@pa_c _ _ _ _ _ (by exact pe_str) (@pa_c _ _ _ _ _ (by exact pe_str) (@pa_c _ _ _ _ _ (by exact pe_str) (@pa_c _ _ _ _ _ (by exact (pe_ix ix_str (pv 2) (pe_op op_mod (pe_op op_fdiv (pv 1) pe_int) (pe_callB call_len_str (by rfl) T.b.len PySem.boot_len (pa_cons (pv 2) pa_nil))) (fun _ _ => rfl))) pa_nil (by rfl)) (by rfl)) (by rfl)) (by rfl)) (by rfl)) (by rfl)) (by rfl)) (by rfl))) (pe_op op_mod (pe_op op_fdiv (pv 1) pe_int) pe_int) (fun _ _ => rfl))) ?_
    intro t1'
    refine go_c (ps_set (i := 4) sc_law_spoilt.nd rfl (Or.inl rfl) (pe_op op_mod (pe_op op_fdiv (pv 1) pe_int) (pe_callB call_len_str (by rfl) T.b.len PySem.boot_len (pa_cons (pv 0) pa_nil)))) ?_
    intro t2'
    refine go_c (ps_if (pt_cmpR op_eq (pe_op op_mod (pv 1) pe_int) pe_int (nomark _)) (pss_one (ps_ret (pe_op op_add_str (pe_op op_add_str (pe_slice sl_str (pv 0) po_none (po_some (pv 4))) (pv 3)) (pe_slice sl_str (pv 0) (po_some (pv 4)) po_none)))) pss_nil) ?_
    intro t3'
    refine go_c (ps_if (pt_cmpR op_eq (pe_op op_mod (pv 1) pe_int) pe_int (nomark _)) (pss_one (ps_ret (pe_op op_add_str (pe_op op_add_str (pe_slice sl_str (pv 0) po_none (po_some (pv 4))) (pv 3)) (pe_slice sl_str (pv 0) (po_some (pe_op op_add (pv 4) pe_int)) po_none)))) pss_nil) ?_
    intro t4'
    refine go_1 (ps_ret (pe_op op_add_str (pe_slice sl_str (pv 0) po_none (po_some (pv 4))) (pe_slice sl_str (pv 0) (po_some (pe_op op_add (pv 4) pe_int)) po_none))) ?_
    intro t5'
    dsimp only [tSeq, t0', tAsg, tC]
    refine gname_go ?_
    generalize hm : (Str.ofString " !\"#$&'*,/0123456789:;<=>?@ABCDEFGHIJKLMNOPQRSTUVWXYZ[\\]^_`abcdefghijklmnopqrstuvwxyz{|}~") = m
    have ml : m.length = 89 := by rw [← hm]; decide +kernel
    clear hm
    show tSeq t1' (tSeq t2' (tSeq t3' (tSeq t4' t5'))) _ [some (.str x), some (.int c), some (.str m), none, none] H
    obtain ⟨cc, _, hcc⟩ := at_some m.cps.toList (c / 3000) (by show 0 < m.length; omega)
    refine ⟨_, rfl, _, rfl, _, _, rfl, rfl, ⟨by decide, by decide⟩, ?_⟩
    refine ⟨_, rfl, m, rfl, (by rw [ml]; decide), _, _, rfl, rfl, (by show (0 : Int) < (m.length : Int); omega), m, _, cc, rfl, rfl, (by rw [ml]; decide), hcc, ?_⟩
    refine ⟨(by show 8 ≤ sizeLine; decide), fun dl hdl => ?_⟩
    have s1 := same_upd (o := .lst [V.str (Str.ofString "("), V.str (Str.ofString ")"), V.str (Str.ofString "+"), V.str (Str.ofString "-"), V.str (Str.ofString "."), V.str (Str.ofString "(+..)"), V.str (Str.ofString "(-..)"), V.str ⟨#[cc]⟩]) hdl
    obtain ⟨z, hz, hat⟩ := at_some [V.str (Str.ofString "("), V.str (Str.ofString ")"), V.str (Str.ofString "+"), V.str (Str.ofString "-"), V.str (Str.ofString "."), V.str (Str.ofString "(+..)"), V.str (Str.ofString "(-..)"), V.str ⟨#[cc]⟩] (c / 3) (Nat.succ_pos _)
    obtain ⟨zs, rfl, hzl⟩ : ∃ zs : Str, z = V.str zs ∧ zs.length ≤ 5 := by
      simp only [List.mem_cons, List.not_mem_nil, or_false] at hz
      rcases hz with rfl | rfl | rfl | rfl | rfl | rfl | rfl | rfl
      all_goals first | exact ⟨_, rfl, by decide +kernel⟩ | exact ⟨_, rfl, (by show 1 ≤ 5; decide)⟩
    refine ⟨_, rfl, _, _, rfl, rfl, ⟨by decide, by decide⟩, _, _, rfl, rfl, (by show (0 : Int) < 8; decide), dl, _, c / 3 % 8, _, rfl, rfl, SqL.of upd_same, hat, ?_⟩
    clear hat hz hcc
    refine gname_go ?_
    dsimp only [List.set]
    refine ⟨_, rfl, _, _, rfl, rfl, ⟨by decide, by decide⟩, _, rfl, x, rfl, line1000 (by omega), _, _, rfl, rfl, (by show (0 : Int) < x.length; omega), ?_⟩
    refine gname_go ?_
    dsimp only [List.set]
    obtain ⟨a, ha, hal⟩ : ∃ a : Nat, c / 24 % (x.length : Int) = (a : Int) ∧ a < x.length := by
      have w0 : 0 ≤ c / 24 % (x.length : Int) := Int.emod_nonneg _ (by omega)
      have w1 : c / 24 % (x.length : Int) < x.length := Int.emod_lt_of_pos _ (by omega)
      exact ⟨(c / 24 % (x.length : Int)).toNat, by omega, by omega⟩
    rw [ha]
    have x0 : x.cps.toList.length = x.length := by simp [Str.length]
    have x1 : ∀ y : Str, y.cps.toList.length = y.length := fun y => by simp [Str.length]
    have l1 : (Txt.slice x none (some (a : Int))).length ≤ a := by
      rw [← x1, slice_ns, List.length_take]; omega
    have l2 : (Txt.slice x (some (a : Int)) none).length ≤ x.length - a := by
      rw [← x1, slice_sn x a (by omega), List.length_drop]; omega
    have l3 : (Txt.slice x (some ((a : Int) + 1)) none).length ≤ x.length - a := by
      rw [show ((a : Int) + 1) = ((a + 1 : Nat) : Int) by omega, ← x1, slice_sn x (a + 1) (by omega), List.length_drop]; omega
    refine ⟨_, rfl, _, _, rfl, rfl, (by show (0 : Int) < 3; decide), rfl, _, rfl, ?_⟩
    refine ite2 (fun _ => ?_) (fun _ => ?_)
    · refine ⟨_, rfl, _, rfl, _, rfl, x, rfl, line1000 (by omega), _, rfl, _, _, rfl, rfl, line1000 (by omega), ?_⟩
      refine ⟨_, rfl, _, rfl, _, rfl, x, rfl, line1000 (by omega), _, _, rfl, rfl, line1000 (by rw [str_len]; omega), ?_⟩
      exact q _ _ (by rw [str_len, str_len]; omega) s1
    refine ⟨_, rfl, _, _, rfl, rfl, (by show (0 : Int) < 3; decide), rfl, _, rfl, ?_⟩
    refine ite2 (fun _ => ?_) (fun _ => ?_)
    · refine ⟨_, rfl, _, rfl, _, rfl, x, rfl, line1000 (by omega), _, rfl, _, _, rfl, rfl, line1000 (by omega), ?_⟩
      refine ⟨_, rfl, _, rfl, _, _, rfl, rfl, _, rfl, x, rfl, line1000 (by omega), _, _, rfl, rfl, line1000 (by rw [str_len]; omega), ?_⟩
      exact q _ _ (by rw [str_len, str_len]; omega) s1
    · refine ⟨_, rfl, _, rfl, _, rfl, x, rfl, line1000 (by omega), ?_⟩
      refine ⟨_, rfl, _, rfl, _, _, rfl, rfl, _, rfl, x, rfl, line1000 (by omega), _, _, rfl, rfl, line1000 (by omega), ?_⟩
      exact q _ _ (by rw [str_len]; omega) s1
abbrev ns_law_small : List Str := ["cell", "text", "left", "k"]
theorem sc_law_small : FnScope ns_law_small ["cell"] (defScope s_law_small) := ⟨rfl, rfl, rfl, by decide +kernel, rfl, by decide +kernel, by decide +kernel⟩
theorem ok_small (D : Def K mg "_law_small" s_law_small ["cell"]) (T : Txt mg) : Has P w K mg base CX0 1 "_law_small" ["cell"] spSmall14 := by
  refine D.ok sc_law_small (fun vs H Q E h => ?_) (fun f cdv A outer s H vs Q E hr h => ?_)
  · obtain ⟨c, rfl, _⟩ := h; rfl
  · obtain ⟨c, rfl, q⟩ := h
    refine go_c (ps_set (i := 1) sc_law_small.nd rfl (Or.inl rfl) pe_str) ?_
    intro t0'
    refine go_c (ps_set (i := 2) sc_law_small.nd rfl (Or.inl rfl) (pe_op op_fdiv (pv 0) pe_int)) ?_
    intro t1'
    refine go_c (ps_for PassesOwn.never rfl (pi_range1 rfl T.b.rng (pa_cons (pe_op op_mod (pv 0) pe_int) pa_nil)) (pg_name (i := 3) sc_law_small.nd rfl (Or.inl rfl)) (pss_cons (ps_set (i := 1) sc_law_small.nd rfl (Or.inl rfl) (pe_op op_add_str (pv 1) (pe_ix ix_list (pe_lst (pa_cons pe_str (pa_cons pe_str (pa_cons pe_str (pa_cons pe_str (pa_cons pe_str pa_nil)))))) (pe_op op_mod (pv 2) pe_int) (fun _ _ => rfl))))
      (pss_one (ps_set (i := 2) sc_law_small.nd rfl (Or.inl rfl) (pe_op op_fdiv (pv 2) pe_int))))) ?_
    intro t2'
    refine go_1 (ps_ret (pv 1)) ?_
    intro t3'
    dsimp only [tSeq, t0', tAsg, tC]
    refine gname_go ?_
    refine ⟨_, rfl, _, _, rfl, rfl, ⟨by decide, by decide⟩, ?_⟩
    refine gname_go ?_
    dsimp only [List.set]
    have m0 := Int.emod_nonneg c (show (10 : Int) ≠ 0 by decide)
    have m1 := Int.emod_lt_of_pos c (show (0 : Int) < 10 by decide)
    obtain ⟨n, hn⟩ : ∃ n : Nat, c % 10 = (n : Int) := ⟨(c % 10).toNat, by omega⟩
    refine ⟨_, rfl, _, _, rfl, rfl, (by show (0 : Int) < 10; decide), (n : Int), (by show [V.int (c % 10)] = _; rw [hn]), by omega, by omega, ?_⟩
    rw [show ((n : Nat) : Int).toNat = n by omega]
    refine for_range (n := n) (lo := 0) (fun i σ Hx => ∃ (y : Str) (l : Int) (v3 : Option V), σ = [some (.int c), some (.str y), some (.int l), v3] ∧ Same H Hx ∧ y.length ≤ 2 * i) ⟨Str.ofString "", _, none, rfl, Same.refl _, by decide⟩ ?_ ?_
    · rintro i σ Hx hi ⟨y, l, v3, rfl, sx, hy⟩
      refine gname_go ?_
      dsimp only [List.set]
      refine ⟨_, rfl, (by show 5 ≤ sizeLine; decide), fun dl hdl => ?_⟩
      have s1 := same_upd (o := .lst [V.str (Str.ofString "(+"), V.str (Str.ofString "(-"), V.str (Str.ofString "."), V.str (Str.ofString ")"), V.str (Str.ofString ".")]) hdl
      obtain ⟨z, hz, hat⟩ := at_some [V.str (Str.ofString "(+"), V.str (Str.ofString "(-"), V.str (Str.ofString "."), V.str (Str.ofString ")"), V.str (Str.ofString ".")] l (by decide)
      obtain ⟨zs, rfl, hzl⟩ : ∃ zs : Str, z = V.str zs ∧ zs.length ≤ 2 := by
        simp only [List.mem_cons, List.not_mem_nil, or_false] at hz
        rcases hz with rfl | rfl | rfl | rfl | rfl <;> exact ⟨_, rfl, by decide⟩
      refine ⟨_, rfl, _, _, rfl, rfl, (by show (0 : Int) < 5; decide), dl, _, l % 5, _, rfl, rfl, SqL.of upd_same, hat, _, _, rfl, rfl, line1000 (by omega), ?_⟩
      refine gname_go ?_
      dsimp only [List.set]
      refine ⟨_, rfl, _, _, rfl, rfl, ⟨by decide, by decide⟩, ?_⟩
      exact ⟨_, _, _, rfl, sx.trans s1, by rw [str_len]; omega⟩
    · rintro σ Hx ⟨y, l, v3, rfl, sx, hy⟩
      exact ⟨_, rfl, q y Hx (by omega) sx⟩
abbrev ns_law_refused : List Str := ["thing", "way", "kinds", "e"]
theorem sc_law_refused : FnScope ns_law_refused ["thing", "way"] (defScope s_law_refused) := ⟨rfl, rfl, rfl, by decide +kernel, rfl, by decide +kernel, by decide +kernel⟩
theorem ok_refused {cTurnError cNoNest cNoOrder cNoWords cNoTurn cNoNumber cTooMany cNoText cNoRow : Addr} (D : Def K mg "_law_refused" s_law_refused ["thing", "way"]) (T : Txt mg) (Z : Excs K cTurnError cNoNest cNoOrder cNoWords cNoTurn cNoNumber cTooMany cNoText cNoRow)
    (h_read_nest : Has P w K mg base (CXV P w) 4 "read_nest" ["text"] (spRead K cNoNest)) (h_show_nest : Has P w K mg base (CXV P w) 61 "show_nest" ["nest"] (spShow K cNoNest))
    (mTurnError : mg "TurnError" = some (.ref cTurnError)) (mNoNest : mg "NoNest" = some (.ref cNoNest)) (mNoOrder : mg "NoOrder" = some (.ref cNoOrder)) (mNoWords : mg "NoWords" = some (.ref cNoWords)) (mNoTurn : mg "NoTurn" = some (.ref cNoTurn)) (mNoNumber : mg "NoNumber" = some (.ref cNoNumber))
    (mTooMany : mg "TooMany" = some (.ref cTooMany)) (mNoText : mg "NoText" = some (.ref cNoText)) (mNoRow : mg "NoRow" = some (.ref cNoRow)) : Has P w K mg base CX0 62 "_law_refused" ["thing", "way"] (spRefK K) := by
  obtain ⟨f1, fd1, G1, k1, m1, b1⟩ := h_read_nest
  obtain ⟨f2, fd2, G2, k2, m2, b2⟩ := h_show_nest
  refine D.ok sc_law_refused (fun vs H Q E h => ?_) (fun f cdv A outer s H vs Q E hr h => ?_)
  · obtain ⟨v, y, rfl, _⟩ := h; rfl
  · obtain ⟨v, y, rfl, hw, q⟩ := h
    have hA : y = 0 → _ := fun h => hw.elim (fun z => z.2) (fun z => absurd (h.symm.trans z.1) (by decide))
    have hB : ¬ y = 0 → _ := fun h => hw.elim (fun z => absurd z.1 h) (fun z => z.2)
    clear hw
    refine go_c (ps_set (i := 2) sc_law_refused.nd rfl (Or.inl rfl) (pe_lst pa_nil)) ?_
    intro t0'
    refine go_c (ps_tryIf (i := 3) (pt_cmpR op_eq (pv 1) pe_int (nomark _)) G1 (hr.mono (by first | decide | omega)) (by rfl) m1 k1 b1 G2 hr (by rfl) m2 k2 b2 rfl rfl (by rfl) mTurnError Z.ct sc_law_refused.nd rfl rfl (pa_cons (pv 0) pa_nil) (pa_cons (pv 0) pa_nil) (fun y => (pss_cons (ps_set (i := 2) sc_law_refused.nd rfl (Or.inl rfl) (pe_lst (pa_cons (pe_callB (r := rIsX K) call_isx (by rfl) T.b.isi boot_isi (pa_cons (pv 3) (pa_cons (pe_glob (v := .ref cNoNest) (by rfl) mNoNest rfl) pa_nil))) (pa_cons (pe_callB (r := rIsX K) call_isx (by rfl) T.b.isi boot_isi (pa_cons (pv 3) (pa_cons (pe_bltn (v := .ty "ValueError") (by rfl) T.ve boot_ve rfl) pa_nil))) pa_nil))))
      (pss_cons (ps_expr (pe_bm PySem.F.plainAttrs_list PySem.F.slot_list_append PySem.F.type_list_append mt_append (pv 2) (pa_cons (pe_callB (r := rIsX K) call_isx (by rfl) T.b.isi boot_isi (pa_cons (pv 3) (pa_cons (@pe_tup _ _ _ _ _ (@pa_c _ _ _ _ _ (by exact (pe_glob (v := .ref cNoOrder) (by rfl) mNoOrder rfl)) (@pa_c _ _ _ _ _ (by exact (pe_glob (v := .ref cNoWords) (by rfl) mNoWords rfl)) (@pa_c _ _ _ _ _ (by exact (pe_glob (v := .ref cNoTurn) (by rfl) mNoTurn rfl)) (@pa_c _ _ _ _ _ (by exact (pe_glob (v := .ref cNoNumber) (by rfl) mNoNumber rfl)) pa_nil (by rfl)) (by rfl)) (by rfl)) (by rfl))) pa_nil))) pa_nil)))
      (pss_one (ps_expr (pe_bm PySem.F.plainAttrs_list PySem.F.slot_list_append PySem.F.type_list_append mt_append (pv 2) (pa_cons (pe_callB (r := rIsX K) call_isx (by rfl) T.b.isi boot_isi (pa_cons (pv 3) (pa_cons (pe_tup (pa_cons (pe_glob (v := .ref cTooMany) (by rfl) mTooMany rfl) (pa_cons (pe_glob (v := .ref cNoText) (by rfl) mNoText rfl) (pa_cons (pe_glob (v := .ref cNoRow) (by rfl) mNoRow rfl) pa_nil)))) pa_nil))) pa_nil)))))))) ?_
    intro t1'
    refine go_1 (ps_ret (pe_cmpR (op_eqL hr.units0) (pv 2) (pe_lst (pa_cons pe_bl (pa_cons pe_bl (pa_cons pe_bl (pa_cons pe_bl pa_nil))))) (nomark _))) ?_
    intro t2'
    refine ⟨(by show 0 ≤ sizeLine; omega), fun kp hkp => ?_⟩
    have s1 : Same H (upd H kp (.lst [])) := same_upd hkp
    refine ⟨_, rfl, rfl, _, rfl, ?_⟩
    suffices key : ∀ (H2 : Hp), Same (upd H kp (.lst [])) H2 → _ by
      refine ite2 (fun hy => ⟨_, rfl, v, rfl, ?_⟩) (fun hy => ?_)
      · rcases hA (by simpa using hy) with ⟨x, hx0, hx1, hx2, hx3⟩ | ⟨t, ht, ht2⟩
        · exact .inl ⟨x, hx0, hx1, hx2, fun n hn => (by rw [hx3] at hn; cases hn), fun _ H2 s2 => ⟨cNoNest, rfl, Z.tx, Z.mr, key H2 s2⟩⟩
        · exact .inr ⟨t, Same.ty s1 ht, ht2, fun H2 s2 => ⟨cNoNest, rfl, Z.tx, Z.mr, key H2 s2⟩⟩
      · obtain ⟨n, hN, hbad⟩ := hB (by simpa using hy)
        exact ⟨_, rfl, v, n, rfl, hN.mono s1, (fun h => by rw [hbad] at h; cases h), fun _ H2 s2 => ⟨cNoNest, rfl, Z.tx, Z.mr, key H2 s2⟩⟩
    intro H2 s2 x hxn
    have s3 : Same H (upd H2 x (exO x cNoNest)) := (s1.trans s2).trans (same_upd hxn)
    have eX : (upd H2 x (exO x cNoNest)) x = some (exO x cNoNest) := upd_same
    generalize upd H2 x (exO x cNoNest) = H3 at s3 eX ⊢
    refine ⟨_, rfl, x, cNoNest, _, true, rfl, eX, Z.tx, .inr (.inl ⟨cNoNest, rfl, kit_refl _ _⟩), ?_⟩
    refine ⟨_, rfl, x, cNoNest, _, true, rfl, eX, Z.tx, .inl ⟨"ValueError", rfl, Z.ve⟩, ?_⟩
    refine ⟨(by show 2 ≤ sizeLine; decide), fun k2 hk2 => ?_⟩
    have e2 : (upd H3 k2 (.lst [V.bl true, V.bl true])) k2 = some (.lst [V.bl true, V.bl true]) := upd_same
    have eX2 : (upd H3 k2 (.lst [V.bl true, V.bl true])) x = some (exO x cNoNest) := by rw [upd_ne (ne_of_none eX hk2)]; exact eX
    have s4 : Same H (upd H3 k2 (.lst [V.bl true, V.bl true])) := s3.trans (same_upd hk2)
    have hk20 : H k2 = none := s3.free hk2
    generalize upd H3 k2 (.lst [V.bl true, V.bl true]) = H4 at e2 eX2 s4 ⊢
    refine ⟨_, rfl, .inl ⟨rfl, _, SqL.of e2⟩, _, rfl, (by show 4 ≤ sizeLine; decide), fun t4 ht4 => ?_⟩
    refine ⟨x, cNoNest, _, false, rfl, (by rw [upd_ne (ne_of_none eX2 ht4)]; exact eX2), Z.tx, .inr (.inr ⟨t4, [cNoOrder, cNoWords, cNoTurn, cNoNumber], rfl, upd_same, Z.a4⟩), ?_⟩
    refine ⟨k2, _, _, rfl, rfl, (by rw [upd_ne (ne_of_none e2 ht4)]; exact e2), (by show 2 < sizeLine; decide), ?_⟩
    have ht40 : H t4 = none := s4.free ht4
    have e5 : ∀ G : Hp, (upd G k2 (.lst ([V.bl true, V.bl true] ++ [V.bl false]))) k2 = some (.lst [V.bl true, V.bl true, V.bl false]) := fun G => upd_same
    have eX5 : (upd (upd H4 t4 (.tup [V.ref cNoOrder, V.ref cNoWords, V.ref cNoTurn, V.ref cNoNumber])) k2 (.lst ([V.bl true, V.bl true] ++ [V.bl false]))) x = some (exO x cNoNest) := by
      rw [upd_ne (ne_of eX2 e2 (by intro z; cases z)), upd_ne (ne_of_none eX2 ht4)]; exact eX2
    have s5 : Same H (upd (upd H4 t4 (.tup [V.ref cNoOrder, V.ref cNoWords, V.ref cNoTurn, V.ref cNoNumber])) k2 (.lst ([V.bl true, V.bl true] ++ [V.bl false]))) := fun b ob e => by
      rw [upd_ne (ne_of_none e hk20), upd_ne (ne_of_none e ht40)]; exact s4 b ob e
    have e5' := e5 (upd H4 t4 (.tup [V.ref cNoOrder, V.ref cNoWords, V.ref cNoTurn, V.ref cNoNumber]))
    generalize upd (upd H4 t4 (.tup [V.ref cNoOrder, V.ref cNoWords, V.ref cNoTurn, V.ref cNoNumber])) k2 (.lst ([V.bl true, V.bl true] ++ [V.bl false])) = H5 at e5' eX5 s5 ⊢
    refine ⟨_, rfl, .inl ⟨rfl, _, SqL.of e5'⟩, _, rfl, (by show 3 ≤ sizeLine; decide), fun t3 ht3 => ?_⟩
    refine ⟨x, cNoNest, _, false, rfl, (by rw [upd_ne (ne_of_none eX5 ht3)]; exact eX5), Z.tx, .inr (.inr ⟨t3, [cTooMany, cNoText, cNoRow], rfl, upd_same, Z.a3⟩), ?_⟩
    refine ⟨k2, _, _, rfl, rfl, (by rw [upd_ne (ne_of_none e5' ht3)]; exact e5'), (by show 3 < sizeLine; decide), ?_⟩
    have ht30 : H t3 = none := s5.free ht3
    refine ⟨_, rfl, (by show 4 ≤ sizeLine; decide), fun d4 hd4 => ?_⟩
    refine ⟨k2, d4, _, _, rfl, rfl, SqL.of (by rw [upd_ne (ne_of_none upd_same hd4)]; exact upd_same), SqL.of upd_same, .inr ⟨true, rfl, q _ fun b ob e => ?_⟩⟩
    have hd40 : b ≠ d4 := fun z => by
      subst z
      rw [upd_ne (ne_of_none e hk20), upd_ne (ne_of_none e ht30), s5 b ob e] at hd4
      cases hd4
    rw [upd_ne hd40, upd_ne (ne_of_none e hk20), upd_ne (ne_of_none e ht30)]
    exact s5 b ob e
abbrev ns_law_none : List Str := ["nest", "cell", "some", "bad", "kind", "parts", "at", "inner"]
theorem sc_law_none : FnScope ns_law_none ["nest", "cell"] (defScope s_law_none) := ⟨rfl, rfl, rfl, by decide +kernel, rfl, by decide +kernel, by decide +kernel⟩
theorem ok_none (D : Def K mg "_law_none" s_law_none ["nest", "cell"]) (T : Txt mg) : Has P w K mg base CX0 1 "_law_none" ["nest", "cell"] (spNone K) := by
  refine D.ok sc_law_none (fun vs H Q E h => ?_) (fun f cdv A outer s H vs Q E hr h => ?_)
  · obtain ⟨v, n, c, rfl, _⟩ := h; rfl
  · obtain ⟨v, n, c, rfl, hN, hV, h60, q⟩ := h
    refine go_c (@ps_set _ _ 2 _ _ _ _ sc_law_none.nd rfl (Or.inl rfl) (@pe_lst _ _ _ _ (@pa_c _ _ _ _ _ (by exact pe_int) (@pa_c _ _ _ _ _ (by exact pe_bl) (@pa_c _ _ _ _ _ (by exact pe_str) (@pa_c _ _ _ _ _ (by exact pe_str) (@pa_c _ _ _ _ _ (by exact (pe_lst pa_nil)) (@pa_c _ _ _ _ _ (by exact (pe_tup pa_nil)) (@pa_c _ _ _ _ _ (by exact (pe_lst (pa_cons pe_non (pa_cons pe_non pa_nil)))) (@pa_c _ _ _ _ _ (by exact (pe_tup (pa_cons pe_str (pa_cons (pe_tup (pa_cons pe_non pa_nil)) pa_nil)))) (@pa_c _ _ _ _ _ (by exact (pe_tup (pa_cons pe_str (pa_cons (pe_tup (pa_cons pe_non (pa_cons pe_non pa_nil))) pa_nil)))) (@pa_c _ _ _ _ _ (by exact pe_dnewK) (@pa_c _ _ _ _ _ (by exact (pe_tup (pa_cons pe_non (pa_cons pe_non pa_nil)))) (@pa_c _ _ _ _ _ (by exact (pe_tup (pa_cons pe_str (pa_cons (pe_lst pa_nil) pa_nil)))) pa_nil (by rfl)) (by rfl)) (by rfl)) (by rfl)) (by rfl)) (by rfl)) (by rfl)) (by rfl)) (by rfl)) (by rfl)) (by rfl)) (by rfl))) rfl (Or.inl rfl)) ?_
    intro t0'
    refine go_c (ps_set (i := 3) sc_law_none.nd rfl (Or.inl rfl) (pe_ix ix_list (pe_op op_cat (pv 2) (pe_lst (pa_cons (pe_tup (pa_cons pe_str (pa_cons (pe_tup (pa_cons pe_non (pa_cons pe_non pa_nil))) pa_nil))) (pa_cons (pe_tup (pa_cons pe_str (pa_cons (pe_op op_repT (pe_tup (pa_cons pe_non pa_nil)) pe_int) pa_nil))) pa_nil)))) (pe_op op_mod (pe_op op_fdiv (pv 1) pe_int) pe_int) (fun _ _ => rfl))) ?_
    intro t1'
    refine go_c (ps_if (pt_cmpR op_isN (pv 0) pe_non (nomark _)) (pss_one (ps_ret (pv 3))) pss_nil) ?_
    intro t2'
    refine go_c (ps_asg (pv 0) (pg_tup rfl (pgs_cons (pg_name (i := 4) sc_law_none.nd rfl (Or.inl rfl)) (pgs_cons (pg_name (i := 5) sc_law_none.nd rfl (Or.inl rfl)) pgs_nil)))) ?_
    intro t3'
    refine go_c (ps_set (i := 6) sc_law_none.nd rfl (Or.inl rfl) (pe_op op_mod (pe_op op_fdiv (pv 1) pe_int) (pe_callB call_len_seq (by rfl) T.b.len PySem.boot_len (pa_cons (pv 5) pa_nil)))) ?_
    intro t4'
    refine go_c (ps_if (pt_cmpR op_eq (pe_op op_mod (pv 1) pe_int) pe_int (nomark _)) (pss_one (ps_ret (pe_tup (pa_cons (pv 4) (pa_cons (pe_op op_catA (pe_op op_catA (pe_slice sl_tupTA (pv 5) po_none (po_some (pv 6))) (pe_tup (pa_cons (pv 0) pa_nil))) (pe_slice sl_tupTA (pv 5) (po_some (pv 6)) po_none)) pa_nil))))) pss_nil) ?_
    intro t5'
    refine go_c (ps_if (PW.pt (pw_and (pt_cmpR op_eq (pe_op op_mod (pv 1) pe_int) pe_int (nomark _)) (pw_and1 (pt_cmpR op_notN (pe_ix ix_tup (pv 5) (pv 6) (fun _ _ => rfl)) pe_non (nomark _))))) (pss_cons (ps_set (i := 7) sc_law_none.nd rfl (Or.inl rfl) (pe_ix ix_tup (pv 5) (pv 6) (fun _ _ => rfl)))
      (pss_one (ps_ret (pe_tup (pa_cons (pv 4) (pa_cons (pe_op op_catA (pe_op op_catA (pe_slice sl_tupTA (pv 5) po_none (po_some (pv 6))) (pe_tup (pa_cons (pe_tup (pa_cons (pe_ix ix_tup (pv 7) pe_int (fun _ _ => rfl)) (pa_cons (pe_op op_catA (pe_slice sl_tupTA (pe_ix ix_tup (pv 7) pe_int (fun _ _ => rfl)) po_none (po_some (pe_un un_neg pe_int))) (pe_tup (pa_cons (pv 3) pa_nil))) pa_nil))) pa_nil))) (pe_slice sl_tupTA (pv 5) (po_some (pe_op op_add (pv 6) pe_int)) po_none)) pa_nil)))))) pss_nil) ?_
    intro t6'
    refine go_c (ps_if (pt_cmpR op_eq (pe_op op_mod (pv 1) pe_int) pe_int (nomark _)) (pss_one (ps_ret (pe_tup (pa_cons (pv 4) (pa_cons (pe_op op_catA (pv 5) (pe_op op_repT (pe_tup (pa_cons pe_non pa_nil)) pe_int)) pa_nil))))) pss_nil) ?_
    intro t7'
    refine go_1 (ps_ret (pe_tup (pa_cons (pv 4) (pa_cons (pe_op op_catA (pe_op op_catA (pe_slice sl_tupTA (pv 5) po_none (po_some (pv 6))) (pe_tup (pa_cons (pv 3) pa_nil))) (pe_slice sl_tupTA (pv 5) (po_some (pe_op op_add (pv 6) pe_int)) po_none)) pa_nil)))) ?_
    intro t8'
    refine ⟨(by show 0 ≤ sizeLine; omega), fun q1 h1 => ?_⟩
    have t1 : Same H (upd H q1 (.lst [])) := same_upd h1
    have f1 : (upd H q1 (.lst [])) q1 = some (.lst []) := upd_same
    generalize upd H q1 (.lst []) = G1 at t1 f1 ⊢
    refine ⟨(by show 0 ≤ sizeLine; omega), fun q2 h2 => ?_⟩
    have t2 : Same G1 (upd G1 q2 (.tup [])) := same_upd h2
    have f2 : (upd G1 q2 (.tup [])) q2 = some (.tup []) := upd_same
    generalize upd G1 q2 (.tup []) = G2 at t2 f2 ⊢
    refine ⟨(by show 2 ≤ sizeLine; decide), fun q3 h3 => ?_⟩
    have t3 : Same G2 (upd G2 q3 (.lst [V.non, V.non])) := same_upd h3
    have f3 : (upd G2 q3 (.lst [V.non, V.non])) q3 = some (.lst [V.non, V.non]) := upd_same
    generalize upd G2 q3 (.lst [V.non, V.non]) = G3 at t3 f3 ⊢
    refine ⟨(by show 1 ≤ sizeLine; decide), fun q4 h4 => ?_⟩
    have t4 : Same G3 (upd G3 q4 (.tup [V.non])) := same_upd h4
    have f4 : (upd G3 q4 (.tup [V.non])) q4 = some (.tup [V.non]) := upd_same
    generalize upd G3 q4 (.tup [V.non]) = G4 at t4 f4 ⊢
    refine ⟨(by show 2 ≤ sizeLine; decide), fun q5 h5 => ?_⟩
    have t5 : Same G4 (upd G4 q5 (.tup [V.str (kS true), V.ref q4])) := same_upd h5
    have f5 : (upd G4 q5 (.tup [V.str (kS true), V.ref q4])) q5 = some (.tup [V.str (kS true), V.ref q4]) := upd_same
    change _
    generalize hG5 : upd G4 q5 (.tup [V.str (kS true), V.ref q4]) = G5 at t5 f5
    rw [show upd G4 q5 (.tup [V.str "+", V.ref q4]) = G5 from hG5]
    refine ⟨(by show 2 ≤ sizeLine; decide), fun q6 h6 => ?_⟩
    have t6 : Same G5 (upd G5 q6 (.tup [V.non, V.non])) := same_upd h6
    have f6 : (upd G5 q6 (.tup [V.non, V.non])) q6 = some (.tup [V.non, V.non]) := upd_same
    generalize upd G5 q6 (.tup [V.non, V.non]) = G6 at t6 f6 ⊢
    refine ⟨(by show 2 ≤ sizeLine; decide), fun q7 h7 => ?_⟩
    have t7 : Same G6 (upd G6 q7 (.tup [V.str "", V.ref q6])) := same_upd h7
    have f7 : (upd G6 q7 (.tup [V.str "", V.ref q6])) q7 = some (.tup [V.str "", V.ref q6]) := upd_same
    generalize upd G6 q7 (.tup [V.str "", V.ref q6]) = G7 at t7 f7 ⊢
    refine fun q8 h8 => ?_
    have t8 : Same G7 (upd G7 q8 (.dK [])) := same_upd h8
    have f8 : (upd G7 q8 (.dK [])) q8 = some (.dK []) := upd_same
    generalize upd G7 q8 (.dK []) = G8 at t8 f8 ⊢
    refine ⟨(by show 2 ≤ sizeLine; decide), fun q9 h9 => ?_⟩
    have t9 : Same G8 (upd G8 q9 (.tup [V.non, V.non])) := same_upd h9
    have f9 : (upd G8 q9 (.tup [V.non, V.non])) q9 = some (.tup [V.non, V.non]) := upd_same
    generalize upd G8 q9 (.tup [V.non, V.non]) = G9 at t9 f9 ⊢
    refine ⟨(by show 0 ≤ sizeLine; omega), fun q10 h10 => ?_⟩
    have t10 : Same G9 (upd G9 q10 (.lst [])) := same_upd h10
    have f10 : (upd G9 q10 (.lst [])) q10 = some (.lst []) := upd_same
    generalize upd G9 q10 (.lst []) = G10 at t10 f10 ⊢
    refine ⟨(by show 2 ≤ sizeLine; decide), fun q11 h11 => ?_⟩
    have t11 : Same G10 (upd G10 q11 (.tup [V.str (kS false), V.ref q10])) := same_upd h11
    have f11 : (upd G10 q11 (.tup [V.str (kS false), V.ref q10])) q11 = some (.tup [V.str (kS false), V.ref q10]) := upd_same
    generalize hG11 : upd G10 q11 (.tup [V.str (kS false), V.ref q10]) = G11 at t11 f11
    rw [show upd G10 q11 (.tup [V.str "-", V.ref q10]) = G11 from hG11]
    refine ⟨(by show 12 ≤ sizeLine; decide), fun q12 h12 => ?_⟩
    have t12 : Same G11 (upd G11 q12 (.lst [V.int 0, V.bl true, V.str "", V.str ".", V.ref q1, V.ref q2, V.ref q3, V.ref q5, V.ref q7, V.ref q8, V.ref q9, V.ref q11])) := same_upd h12
    have f12 : (upd G11 q12 (.lst [V.int 0, V.bl true, V.str "", V.str ".", V.ref q1, V.ref q2, V.ref q3, V.ref q5, V.ref q7, V.ref q8, V.ref q9, V.ref q11])) q12 = some (.lst [V.int 0, V.bl true, V.str "", V.str ".", V.ref q1, V.ref q2, V.ref q3, V.ref q5, V.ref q7, V.ref q8, V.ref q9, V.ref q11]) := upd_same
    generalize upd G11 q12 (.lst [V.int 0, V.bl true, V.str "", V.str ".", V.ref q1, V.ref q2, V.ref q3, V.ref q5, V.ref q7, V.ref q8, V.ref q9, V.ref q11]) = G12 at t12 f12 ⊢
    refine gname_go ?_
    dsimp only [List.set]
    refine ⟨_, rfl, (by show 2 ≤ sizeLine; decide), fun q13 h13 => ?_⟩
    have t13 : Same G12 (upd G12 q13 (.tup [V.non, V.non])) := same_upd h13
    have f13 : (upd G12 q13 (.tup [V.non, V.non])) q13 = some (.tup [V.non, V.non]) := upd_same
    generalize upd G12 q13 (.tup [V.non, V.non]) = G13 at t13 f13 ⊢
    refine ⟨(by show 2 ≤ sizeLine; decide), fun q14 h14 => ?_⟩
    have t14 : Same G13 (upd G13 q14 (.tup [V.str "*", V.ref q13])) := same_upd h14
    have f14 : (upd G13 q14 (.tup [V.str "*", V.ref q13])) q14 = some (.tup [V.str "*", V.ref q13]) := upd_same
    generalize upd G13 q14 (.tup [V.str "*", V.ref q13]) = G14 at t14 f14 ⊢
    refine ⟨(by show 1 ≤ sizeLine; decide), fun q15 h15 => ?_⟩
    have t15 : Same G14 (upd G14 q15 (.tup [V.non])) := same_upd h15
    have f15 : (upd G14 q15 (.tup [V.non])) q15 = some (.tup [V.non]) := upd_same
    generalize upd G14 q15 (.tup [V.non]) = G15 at t15 f15 ⊢
    refine ⟨q15, 61, V.non, rfl, rfl, SqT.of f15, by decide, by decide, fun q16 h16 => ?_⟩
    have t16 : Same G15 (upd G15 q16 (.tup (List.replicate (61 : Int).toNat V.non))) := same_upd h16
    have f16 : (upd G15 q16 (.tup (List.replicate (61 : Int).toNat V.non))) q16 = some (.tup (List.replicate 61 V.non)) := upd_same
    generalize upd G15 q16 (.tup (List.replicate (61 : Int).toNat V.non)) = G16 at t16 f16 ⊢
    refine ⟨(by show 2 ≤ sizeLine; decide), fun q17 h17 => ?_⟩
    have t17 : Same G16 (upd G16 q17 (.tup [V.str (kS true), V.ref q16])) := same_upd h17
    have f17 : (upd G16 q17 (.tup [V.str (kS true), V.ref q16])) q17 = some (.tup [V.str (kS true), V.ref q16]) := upd_same
    change _
    generalize hG17 : upd G16 q17 (.tup [V.str (kS true), V.ref q16]) = G17 at t17 f17
    rw [show upd G16 q17 (.tup [V.str "+", V.ref q16]) = G17 from hG17]
    refine ⟨(by show 2 ≤ sizeLine; decide), fun q18 h18 => ?_⟩
    have t18 : Same G17 (upd G17 q18 (.lst [V.ref q14, V.ref q17])) := same_upd h18
    have f18 : (upd G17 q18 (.lst [V.ref q14, V.ref q17])) q18 = some (.lst [V.ref q14, V.ref q17]) := upd_same
    generalize upd G17 q18 (.lst [V.ref q14, V.ref q17]) = G18 at t18 f18 ⊢
    have s12 := t13.trans (t14.trans (t15.trans (t16.trans (t17.trans t18))))
    refine ⟨q12, q18, _, _, rfl, rfl, s12 _ _ f12, f18, (by show 14 ≤ sizeLine; decide), fun q19 h19 => ?_⟩
    have t19 : Same G18 (upd G18 q19 (.lst [V.int 0, V.bl true, V.str "", V.str ".", V.ref q1, V.ref q2, V.ref q3, V.ref q5, V.ref q7, V.ref q8, V.ref q9, V.ref q11, V.ref q14, V.ref q17])) := same_upd h19
    have f19 : (upd G18 q19 (.lst [V.int 0, V.bl true, V.str "", V.str ".", V.ref q1, V.ref q2, V.ref q3, V.ref q5, V.ref q7, V.ref q8, V.ref q9, V.ref q11, V.ref q14, V.ref q17])) q19 = some (.lst [V.int 0, V.bl true, V.str "", V.str ".", V.ref q1, V.ref q2, V.ref q3, V.ref q5, V.ref q7, V.ref q8, V.ref q9, V.ref q11, V.ref q14, V.ref q17]) := upd_same
    change _
    generalize hG19 : upd G18 q19 (.lst [V.int 0, V.bl true, V.str "", V.str ".", V.ref q1, V.ref q2, V.ref q3, V.ref q5, V.ref q7, V.ref q8, V.ref q9, V.ref q11, V.ref q14, V.ref q17]) = G at t19 f19
    rw [show upd G18 q19 (.lst ([V.int 0, V.bl true, V.str "", V.str ".", V.ref q1, V.ref q2, V.ref q3, V.ref q5, V.ref q7, V.ref q8, V.ref q9, V.ref q11] ++ [V.ref q14, V.ref q17])) = G from hG19]
    clear hG19 hG17 hG11 hG5
    have s18 := t19
    have s17 := t18.trans s18
    have s16 := t17.trans s17
    have s14 := t15.trans (t16.trans s16)
    have s13 := t14.trans s14
    have s11 := t12.trans (t13.trans s13)
    have s10 := t11.trans s11
    have s9 := t10.trans s10
    have s8 := t9.trans s9
    have s7 := t8.trans s8
    have s6 := t7.trans s7
    have s5 := t6.trans s6
    have s4 := t5.trans s5
    have s3 := t4.trans s4
    have s2 := t3.trans s3
    have s1 := t2.trans s2
    have SG : Same H G := t1.trans s1
    have u0 : 0 ≤ c / 4 % (14 : Int) := Int.emod_nonneg _ (by omega)
    have u1 : c / 4 % (14 : Int) < 14 := Int.emod_lt_of_pos _ (by omega)
    obtain ⟨bd, hbd, hat⟩ := at_lt (xs := [V.int 0, V.bl true, V.str "", V.str ".", V.ref q1, V.ref q2, V.ref q3, V.ref q5, V.ref q7, V.ref q8, V.ref q9, V.ref q11, V.ref q14, V.ref q17]) (i := c / 4 % 14) u0 u1
    refine ⟨_, rfl, _, _, rfl, rfl, ⟨by decide, by decide⟩, _, _, rfl, rfl, (by show (0 : Int) < 14; decide), q19, _, c / 4 % 14, bd, rfl, rfl, SqL.of f19, hat, ?_⟩
    refine gname_go ?_
    dsimp only [List.set]
    have hB : ∃ nb, NestAt K G nb bd ∧ Foul nb := by
      simp only [List.mem_cons, List.not_mem_nil, or_false] at hbd
      have fb : Foul .bad := .inl fun _ => rfl
      rcases hbd with rfl | rfl | rfl | rfl | rfl | rfl | rfl | rfl | rfl | rfl | rfl | rfl | rfl | rfl
      · exact ⟨_, bad_int K _ _, fb⟩
      · exact ⟨_, bad_bl K _ _, fb⟩
      · exact ⟨_, bad_str K _ _, fb⟩
      · exact ⟨_, bad_str K _ _, fb⟩
      · exact ⟨_, bad_lst K (s1 _ _ f1), fb⟩
      · exact ⟨_, bad_len K (s2 _ _ f2) (by decide), fb⟩
      · exact ⟨_, bad_lst K (s3 _ _ f3), fb⟩
      · exact ⟨_, bad_few K (s5 _ _ f5) (s4 _ _ f4) (by decide), fb⟩
      · exact ⟨_, bad_kind K (s7 _ _ f7) (by decide +kernel) (by decide +kernel) (typed_tup K (s6 _ _ f6)), fb⟩
      · exact ⟨_, bad_dK K (s8 _ _ f8), fb⟩
      · exact ⟨_, bad_none2 K (s9 _ _ f9) (typed_non K _), fb⟩
      · exact ⟨_, bad_parts K (s11 _ _ f11) (s10 _ _ f10), fb⟩
      · exact ⟨_, bad_kind K (s14 _ _ f14) (by decide +kernel) (by decide +kernel) (typed_tup K (s13 _ _ f13)), fb⟩
      · exact ⟨.knot true (List.replicate 61 .word), ⟨q17, q16, _, rfl, (t18.trans t19) _ _ f17, s16 _ _ f16, (by simp), (by simp), NestsAt.rep 61⟩, .inr (by simp only [words]; rw [wordsL_rep]; decide)⟩
    obtain ⟨nb, hB, hF⟩ := hB
    clear f1 f2 f3 f4 f5 f7 f8 f9 f10 f11 f12 f13 f14 f15 f16 f17 f18 f19 hbd hat
    have hNG := hN.mono SG
    cases n with
    | word =>
      have e : v = .non := hN
      subst e
      exact ⟨_, rfl, rfl, _, rfl, iteT ⟨_, rfl, q nb bd G hB (foul_ok hF) SG⟩⟩
    | bad => exact absurd hV (by simp [valid])
    | knot k ps =>
      have hNG' := hNG
      obtain ⟨a, b, us, rfl, ea, eb, hu2, hu3, hps⟩ := hNG
      have hpl := hps.len
      have hpw := wordsL_pos hps
      simp only [words] at h60
      refine ⟨_, rfl, rfl, _, rfl, iteF ?_⟩
      refine ⟨_, rfl, a, _, rfl, SqT.of ea, rfl, _, _, rfl, _, _, rfl, rfl, ?_⟩
      refine ⟨_, rfl, _, _, rfl, rfl, ⟨by decide, by decide⟩, _, rfl, b, _, rfl, .inr (SqT.of eb), _, _, rfl, rfl, (by omega), ?_⟩
      obtain ⟨at', hat', hal⟩ : ∃ at' : Nat, c / 56 % (us.length : Int) = (at' : Int) ∧ at' < us.length := by
        have w0 : 0 ≤ c / 56 % (us.length : Int) := Int.emod_nonneg _ (by omega)
        have w1 : c / 56 % (us.length : Int) < us.length := Int.emod_lt_of_pos _ (by omega)
        exact ⟨(c / 56 % (us.length : Int)).toNat, by omega, by omega⟩
      show gName 6 (V.int (c / 56 % (us.length : Int))) _ _ _
      rw [hat']
      refine gname_go ?_
      obtain ⟨z, hz⟩ : ∃ z, us[at']? = some z := ⟨_, List.getElem?_eq_getElem hal⟩
      obtain ⟨nn, hnn, hnv⟩ := hps.get hz
      have hvp : validL k ps = true := by simp only [valid, Bool.and_eq_true] at hV; exact hV.2
      have z4 : (0 : Int) < 4 := by decide
      show tSeq t5' (tSeq t6' (tSeq t7' t8')) _ [some (.ref a), some (.int c), some (.ref q12), some bd, some (.str (kS k)), some (.ref b), some (.int (at' : Int)), none] G
      refine ⟨_, rfl, _, _, rfl, rfl, z4, rfl, _, rfl, ?_⟩
      refine ite2 (fun _ => ?_) (fun _ => ?_)
      · refine ⟨_, rfl, _, rfl, _, rfl, _, rfl, cut_any eb fun x1 G1 f1 y1 => ?_⟩
        rw [cutV_head us at' (by omega)] at f1
        refine ⟨_, rfl, (by show 1 ≤ sizeLine; decide), fun x2 hx2 => ?_⟩
        have y2 := same_upd (o := .tup [V.ref a]) hx2
        refine cat_any (y2 _ _ f1) upd_same (line_mil (by simp; omega)) fun p2 G2 f2 y3 => ?_
        have Y3 := y1.trans (y2.trans y3)
        refine ⟨_, rfl, _, rfl, (at' : Int), rfl, cut_any (Y3 _ _ eb) fun x3 G3 f3 y4 => ?_⟩
        rw [cutV_tail us at' (by omega)] at f3
        refine cat_any (y4 _ _ f2) f3 (line_mil (by simp; omega)) fun p3 G4 f4 y5 => ?_
        refine ⟨(by show 2 ≤ sizeLine; decide), fun r1 hr1 => ?_⟩
        have y6 := same_upd (o := .tup [V.str (kS k), V.ref p3]) hr1
        have Y := Y3.trans (y4.trans (y5.trans y6))
        have hpsY := NestsAt.mono Y hps
        exact q (.knot k (ps.take at' ++ [.knot k ps] ++ ps.drop at')) _ _ ⟨r1, p3, _, rfl, upd_same, y6 _ _ f4, by simp <;> omega, by simp <;> omega, NestsAt.app (NestsAt.app (NestsAt.take at' hpsY) (NestsAt.one (NestAt.mono Y hNG'))) (NestsAt.drop at' hpsY)⟩ (okN_of (.inl (validL_bad _ _ (by simp [valid])))) (SG.trans Y)
      show tSeq t6' (tSeq t7' t8') _ _ _
      refine seq_if (fun σ' Hx => σ' = [some (.ref a), some (.int c), some (.ref q12), some bd, some (.str (kS k)), some (.ref b), some (.int (at' : Int)), none] ∧ Hx = G) ?_ fun hrest => if_leaf (fun b => b = true → z ≠ .non) (fun R hR => ?_) (fun hzn => ?_) (fun _ => hrest _ _ ⟨rfl, rfl⟩)
      · rintro σ' Hx ⟨rfl, eG⟩
        subst eG
        refine seq_if (fun σ' Hx' => σ' = [some (.ref a), some (.int c), some (.ref q12), some bd, some (.str (kS k)), some (.ref b), some (.int (at' : Int)), none] ∧ Hx' = Hx) ?_ fun hrest => if_leaf (fun _ => True) (fun R hR => ⟨_, rfl, _, _, rfl, rfl, z4, rfl, _, rfl, hR _ trivial⟩) (fun _ => ?_) (fun _ => hrest _ _ ⟨rfl, rfl⟩)
        · rintro σ' Hy ⟨rfl, eG⟩
          subst eG
          refine ⟨_, rfl, _, rfl, _, rfl, _, rfl, cut_any eb fun x1 G1 f1 y1 => ?_⟩
          rw [cutV_head us at' (by omega)] at f1
          refine ⟨_, rfl, (by show 1 ≤ sizeLine; decide), fun x2 hx2 => ?_⟩
          have y2 := same_upd (o := .tup [bd]) hx2
          refine cat_any (y2 _ _ f1) upd_same (line_mil (by simp; omega)) fun p2 G2 f2 y3 => ?_
          have Y3 := y1.trans (y2.trans y3)
          refine ⟨_, rfl, _, rfl, _, _, rfl, rfl, ((at' + 1 : Nat) : Int), rfl, cut_any (Y3 _ _ eb) fun x3 G3 f3 y4 => ?_⟩
          rw [cutV_tail us (at' + 1) (by omega)] at f3
          refine cat_any (y4 _ _ f2) f3 (line_mil (by simp; omega)) fun p3 G4 f4 y5 => ?_
          refine ⟨(by show 2 ≤ sizeLine; decide), fun r1 hr1 => ?_⟩
          have y6 := same_upd (o := .tup [V.str (kS k), V.ref p3]) hr1
          have Y := Y3.trans (y4.trans (y5.trans y6))
          have hpsY := NestsAt.mono Y hps
          exact q (.knot k (ps.take at' ++ [nb] ++ ps.drop (at' + 1))) _ _ ⟨r1, p3, _, rfl, upd_same, y6 _ _ f4, by simp <;> omega, by simp <;> omega, NestsAt.app (NestsAt.app (NestsAt.take at' hpsY) (NestsAt.one (NestAt.mono Y hB))) (NestsAt.drop (at' + 1) hpsY)⟩ (foul_in hF) (SG.trans Y)
        · refine ⟨_, rfl, _, rfl, (by show 1 ≤ sizeLine; decide), fun x1 hx1 => ?_⟩
          have y1 := same_upd (o := .tup [V.non]) hx1
          refine ⟨x1, 60, V.non, rfl, rfl, SqT.of upd_same, by decide, by decide, fun x2 hx2 => ?_⟩
          have y2 := same_upd (o := .tup (List.replicate (60 : Int).toNat V.non)) hx2
          have eb2 := y2 _ _ (y1 _ _ eb)
          refine cat_any eb2 upd_same (line_mil (by simp; omega)) fun p2 H2 e2 y3 => ?_
          refine ⟨(by show 2 ≤ sizeLine; decide), fun r1 hr1 => ?_⟩
          have y4 := same_upd (o := .tup [V.str (kS k), V.ref p2]) hr1
          have Y := y1.trans (y2.trans (y3.trans y4))
          refine q (.knot k (ps ++ List.replicate 60 .word)) _ _ ⟨r1, p2, _, rfl, upd_same, y4 _ _ e2, by simp <;> omega, by simp <;> omega, NestsAt.app (NestsAt.mono Y hps) (NestsAt.rep 60)⟩ (okN_of (.inr ?_)) (SG.trans Y)
          rw [wordsL_app, wordsL_rep]
          omega
      · refine ⟨_, rfl, _, _, rfl, rfl, z4, rfl, _, rfl, ?_⟩
        cases decide (V.int (c % 4) = V.int 1) with
        | false => exact iteF (hR _ (fun h => by cases h))
        | true => exact iteT ⟨_, rfl, _, rfl, b, _, _, _, rfl, rfl, SqT.of eb, atI_nat hz, rfl, _, rfl, hR _ (fun h => by simpa using h)⟩
      · cases nn with
        | word => exact absurd hnv (hzn rfl)
        | bad => exact absurd (validL_get hvp hnn) (by simp [valid])
        | knot k2 ps2 =>
          obtain ⟨a2, b2, us2, rfl, ea2, eb2, hv2, hv3, hps2⟩ := hnv
          have hpl2 := hps2.len
          refine ⟨_, rfl, _, rfl, b, _, _, _, rfl, rfl, SqT.of eb, atI_nat hz, ?_⟩
          refine gname_go ?_
          refine ⟨_, rfl, _, rfl, _, rfl, _, rfl, cut_any eb fun x1 G1 f1 y1 => ?_⟩
          rw [cutV_head us at' (by omega)] at f1
          refine ⟨_, rfl, a2, _, 0, _, rfl, rfl, SqT.of (y1 _ _ ea2), rfl, ?_⟩
          refine ⟨_, rfl, a2, _, 1, _, rfl, rfl, SqT.of (y1 _ _ ea2), rfl, 1, rfl, -1, rfl, cut_any (y1 _ _ eb2) fun x2 G2 f2 y2 => ?_⟩
          have ec : cutV us2 none (some (-1)) = us2.take (us2.length - 1) := by
            unfold cutV HT.sIx
            simp
            omega
          rw [ec] at f2
          refine ⟨_, rfl, (by show 1 ≤ sizeLine; decide), fun x3 h3 => ?_⟩
          have y3 := same_upd (o := .tup [bd]) h3
          refine cat_any (y3 _ _ f2) upd_same (line_mil (by simp; omega)) fun x4 G4 f4 y4 => ?_
          refine ⟨(by show 2 ≤ sizeLine; decide), fun x5 h5 => ⟨(by show 1 ≤ sizeLine; decide), fun x6 h6 => ?_⟩⟩
          have y5 := same_upd (o := .tup [V.str (kS k2), V.ref x4]) h5
          have y6 := same_upd (o := .tup [V.ref x5]) h6
          have Y6 := y2.trans (y3.trans (y4.trans (y5.trans y6)))
          refine cat_any (Y6 _ _ f1) upd_same (line_mil (by simp; omega)) fun x7 G7 f7 y7 => ?_
          have Y7 := y1.trans (Y6.trans y7)
          refine ⟨_, rfl, _, rfl, _, _, rfl, rfl, ((at' + 1 : Nat) : Int), rfl, cut_any (Y7 _ _ eb) fun x8 G8 f8 y8 => ?_⟩
          rw [cutV_tail us (at' + 1) (by omega)] at f8
          refine cat_any (y8 _ _ f7) f8 (line_mil (by simp; omega)) fun p3 G9 f9 y9 => ?_
          refine ⟨(by show 2 ≤ sizeLine; decide), fun r1 hr1 => ?_⟩
          have y10 := same_upd (o := .tup [V.str (kS k), V.ref p3]) hr1
          have Y := Y7.trans (y8.trans (y9.trans y10))
          have Yi := y7.trans (y8.trans (y9.trans y10))
          have hpsY := NestsAt.mono Y hps
          have hin : NestAt K _ (.knot k2 (ps2.take (us2.length - 1) ++ [nb])) (V.ref x5) := ⟨x5, x4, _, rfl, Yi _ _ (y6 _ _ upd_same), Yi _ _ (y6 _ _ (y5 _ _ f4)), by simp <;> omega, by simp <;> omega, NestsAt.app (NestsAt.take _ (NestsAt.mono Y hps2)) (NestsAt.one (NestAt.mono Y hB))⟩
          refine q (.knot k (ps.take at' ++ [.knot k2 (ps2.take (us2.length - 1) ++ [nb])] ++ ps.drop (at' + 1))) _ _ ⟨r1, p3, _, rfl, upd_same, y10 _ _ f9, by simp <;> omega, by simp <;> omega, NestsAt.app (NestsAt.app (NestsAt.take at' hpsY) (NestsAt.one hin)) (NestsAt.drop (at' + 1) hpsY)⟩ (foul_in ?_) (SG.trans Y)
          have := foul_knot (k := k2) (a := ps2.take (us2.length - 1)) (b := []) hF
          rwa [List.append_nil] at this
abbrev ns_law_either : List Str := ["text", "due"]
theorem sc_law_either : FnScope ns_law_either ["text"] (defScope s_law_either) := ⟨rfl, rfl, rfl, by decide +kernel, rfl, by decide +kernel, by decide +kernel⟩
theorem ok_either {C : Addr} (D : Def K mg "_law_either" s_law_either ["text"]) (T : Txt mg) (h_law_read : Has P w K mg base CX0 2 "_law_read" ["text"] (spLRead K)) (h_law_refused : Has P w K mg base CX0 62 "_law_refused" ["thing", "way"] (spRefK K))
    (h_read_nest : Has P w K mg base (CXV P w) 4 "read_nest" ["text"] (spRead K C)) : Has P w K mg base CX0 63 "_law_either" ["text"] (spEither K) := by
  refine D.ok sc_law_either (fun vs H Q E h => ?_) (fun f cdv A outer s H vs Q E hr h => ?_)
  · obtain ⟨x, rfl, _⟩ := h; rfl
  · obtain ⟨x, rfl, hx1, hx2, q⟩ := h
    refine go_c (ps_set (i := 1) sc_law_either.nd rfl (Or.inl rfl) (pe_has h_law_read (hr.mono (by first | decide | omega)) (by rfl) pass0 (pa_cons (pv 0) pa_nil))) ?_
    intro t0'
    refine go_c (ps_if (pt_cmpR (op_eqL hr.units0) (pv 1) (pe_lst pa_nil) (nomark _)) (pss_one (ps_ret (pe_has h_law_refused hr (by rfl) pass0 (pa_cons (pv 0) (pa_cons pe_int pa_nil))))) pss_nil) ?_
    intro t1'
    refine go_1 (ps_ret (pe_cmpR (op_eqN (units14 hr)) (pe_has h_read_nest (hr.mono (by first | decide | omega)) (by rfl) pass0V (pa_cons (pv 0) pa_nil)) (pe_ix ix_list (pv 1) pe_int (fun _ _ => rfl)) (nomark _))) ?_
    intro t2'
    refine ⟨_, rfl, x, rfl, hx1, hx2, fun n hn l v H1 el hN s1 => ?_, fun hn l H1 el s1 => ?_⟩
    · refine gname_go ?_
      dsimp only [List.set]
      have hok := readP_ok hn
      unfold okN at hok
      simp only [Bool.and_eq_true, decide_eq_true_eq] at hok
      refine ⟨_, rfl, (by show 0 ≤ sizeLine; decide), fun dl hdl => ?_⟩
      have s2 := same_upd (o := .lst []) hdl
      refine ⟨l, dl, _, _, rfl, rfl, SqL.of (s2 _ _ el), SqL.of upd_same, .inl ⟨by simp, _, rfl, iteF ?_⟩⟩
      refine ⟨_, rfl, .str x, rfl, .inl ⟨x, rfl, hx1, hx2, fun n' hn' v' H3 hN' s3 => ?_, fun bad => by rw [hn] at bad; cases bad⟩⟩
      rw [hn] at hn'
      cases hn'
      have S3 := s2.trans s3
      refine ⟨_, rfl, l, _, 0, v, rfl, rfl, SqL.of (S3 _ _ el), rfl, ?_⟩
      exact ⟨n, none, hN', hN.mono S3, hok.1, (by have := depth_words hN; omega), q _ (s1.trans S3)⟩
    · refine gname_go ?_
      dsimp only [List.set]
      refine ⟨_, rfl, (by show 0 ≤ sizeLine; decide), fun dl hdl => ?_⟩
      have s2 := same_upd (o := .lst []) hdl
      refine ⟨l, dl, _, _, rfl, rfl, SqL.of (s2 _ _ el), SqL.of upd_same, .inr ⟨true, rfl, _, rfl, iteT ?_⟩⟩
      exact ⟨_, rfl, _, 0, rfl, .inl ⟨rfl, .inl ⟨x, rfl, hx1, hx2, hn⟩⟩, fun H3 s3 => q _ (s1.trans (s2.trans s3))⟩
theorem scStir : FnScope ["cell", "k", "number"] ["cell", "k"] (defScope sStir) := ⟨rfl, rfl, rfl, by decide +kernel, rfl, by decide +kernel, by decide +kernel⟩
theorem ok_stir {f : Addr} {fd : FuncData} (F : Fun K "_law_stir" "_law_stir" sStir f fd) : FnOk P w K mg base CX0 1 f fd ["cell", "k"] spStir := by
  refine F.ok scStir (fun vs H Q E h => ?_) (fun cdv A outer s H vs Q E hr h => ?_)
  · obtain ⟨c, k, rfl, _⟩ := h; rfl
  · obtain ⟨c, k, rfl, q⟩ := h
    refine ⟨_, pss_cons (ps_set (i := 2) scStir.nd rfl (Or.inl rfl) (pe_op op_mod (pe_op op_mul (pe_op op_add (pe_op op_add (pe_op op_mod (pv 0) pe_int) (pe_op op_mul pe_int (pv 1))) pe_int) pe_int) pe_int))
      (pss_cons (ps_set (i := 2) scStir.nd rfl (Or.inl rfl) (pe_op op_mod (pe_op op_mul (pv 2) (pv 2)) pe_int))
      (pss_one (ps_ret (pe_op op_mod (pe_op op_mul (pv 2) pe_int) pe_int)))), ?_⟩
    refine ⟨_, rfl, _, _, rfl, rfl, (by show (0 : Int) < 2147483629; decide), _, rfl, _, _, rfl, rfl, .inl ⟨by decide, by decide⟩, _, _, rfl, rfl, _, _, rfl, rfl, _, _, rfl, rfl, .inr ⟨by decide, by decide⟩, _, _, rfl, rfl, (by show (0 : Int) < 2147483647; decide), ?_⟩
    refine ⟨_, rfl, _, rfl, _, _, rfl, rfl, .inl ⟨by omega, by omega⟩, _, _, rfl, rfl, (by show (0 : Int) < 2147483629; decide), ?_⟩
    exact ⟨_, rfl, _, _, rfl, rfl, .inr ⟨by decide, by decide⟩, _, _, rfl, rfl, (by show (0 : Int) < 2147483563; decide), q _⟩
theorem scCell : FnScope ["script", "k"] ["script", "k"] (defScope sCell) := ⟨rfl, rfl, rfl, by decide +kernel, rfl, by decide +kernel, by decide +kernel⟩
theorem ok_cell {f fS : Addr} {fd fdS : FuncData} (F : Fun K "_law_cell" "_law_cell" sCell f fd) (T : Txt mg) (FS : Fun K "_law_stir" "_law_stir" sStir fS fdS) (mS : mg "_law_stir" = some (.ref fS)) (bS : Binds K fdS ["cell", "k"] []) :
    FnOk P w K mg base CX0 2 f fd ["script", "k"] (spCell K) := by
  have GS : FnOk P w K mg base CX0 1 fS fdS ["cell", "k"] spStir := ok_stir FS
  refine F.ok scCell (fun vs H Q E h => ?_) (fun cdv A outer s H vs Q E hr h => ?_)
  · obtain ⟨a, ns, k, rfl, _⟩ := h; rfl
  · obtain ⟨a, ns, k, rfl, hS, hl, h0, h1, q⟩ := h
    refine ⟨_, pss_cons (ps_if (pt_cmpR op_lt (pv 1) (pe_callB call_len_seq (by rfl) T.b.len PySem.boot_len (pa_cons (pv 0) pa_nil)) (nomark _)) (pss_one (ps_ret (pe_ix ix_list (pv 0) (pv 1) (fun _ _ => rfl)))) pss_nil)
      (pss_cons (ps_if (pt_cmpR op_eq (pe_callB call_len_seq (by rfl) T.b.len PySem.boot_len (pa_cons (pv 0) pa_nil)) pe_int (nomark _)) (pss_one (ps_ret (pe_call GS hr rfl mS FS.kp bS .nil pass0 (pa_cons (pe_op op_mul (pv 1) (pv 1)) (pa_cons (pv 1) pa_nil))))) pss_nil)
      (pss_one (ps_ret (pe_call GS hr rfl mS FS.kp bS .nil pass0 (pa_cons (pe_ix ix_list (pv 0) (pe_op op_mod (pv 1) (pe_callB call_len_seq (by rfl) T.b.len PySem.boot_len (pa_cons (pv 0) pa_nil))) (fun _ _ => rfl)) (pa_cons (pv 1) pa_nil)))))), ?_⟩
    have hlen : ((ns.map V.int).length : Int) = ns.length := by rw [List.length_map]
    refine ⟨_, rfl, _, rfl, a, _, rfl, .inl hS, _, _, rfl, rfl, _, rfl, ?_⟩
    refine ite2 (fun c => ?_) (fun c => ?_)
    · have c : k < (ns.length : Int) := by rw [← hlen]; simpa using c
      have hk : k.toNat < ns.length := by omega
      refine ⟨_, rfl, _, rfl, a, _, k, V.int ns[k.toNat], rfl, rfl, hS, ?_, q _⟩
      have := at_ints (ns := ns) (j := k.toNat) (z := ns[k.toNat]) (by simp [hk])
      rw [show ((k.toNat : Nat) : Int) = k by omega] at this
      exact this
    · refine ⟨_, rfl, a, _, rfl, .inl hS, rfl, _, rfl, ?_⟩
      refine ite2 (fun c2 => ?_) (fun c2 => ?_)
      · exact ⟨_, rfl, _, rfl, _, _, rfl, rfl, .inl ⟨by omega, by omega⟩, _, rfl, _, _, rfl, q⟩
      · have hpos : 0 < ns.length := by
          cases e : ns with
          | nil => subst e; exact absurd c2 (by simp)
          | cons _ _ => simp
        have hm0 : 0 ≤ k % (ns.length : Int) := Int.emod_nonneg _ (by omega)
        have hm1 : k % (ns.length : Int) < ns.length := Int.emod_lt_of_pos _ (by omega)
        have hk : (k % (ns.length : Int)).toNat < ns.length := by omega
        refine ⟨_, rfl, _, rfl, _, rfl, a, _, rfl, .inl hS, _, _, rfl, rfl, (by rw [hlen]; omega), a, _, k % ((ns.map V.int).length : Int), V.int ns[(k % (ns.length : Int)).toNat], rfl, rfl, hS, ?_, _, rfl, _, _, rfl, q⟩
        have := at_ints (ns := ns) (j := (k % (ns.length : Int)).toNat) (z := ns[(k % (ns.length : Int)).toNat]) (by simp [hk])
        rw [show (((k % (ns.length : Int)).toNat : Nat) : Int) = k % (ns.length : Int) by omega] at this
        rw [hlen]
        exact this
theorem scMore : FnScope ["cells", "found", "cell"] ["cells"] (defScope sMore) := ⟨rfl, rfl, rfl, by decide +kernel, rfl, by decide +kernel, by decide +kernel⟩
theorem ok_more {f : Addr} {fd : FuncData} (F : Fun K "_law_more" "_law_more" sMore f fd) (T : Txt mg) : FnOk P w K mg base CX0 1 f fd ["cells"] (spMore K) := by
  refine F.ok scMore (fun vs H Q E h => ?_) (fun cdv A outer s H vs Q E hr h => ?_)
  · obtain ⟨l, ns, rfl, _⟩ := h; rfl
  · obtain ⟨l, ns, rfl, hl, hz, q⟩ := h
    refine ⟨_, (pss_cons (ps_set (i := 1) scMore.nd rfl (Or.inl rfl) (pe_lst pa_nil))
      (pss_cons (ps_for PassesOwn.never rfl (pi_list (pv 0)) (pg_name (i := 2) scMore.nd rfl (Or.inl rfl))
        (pss_one (ps_expr (pe_bm PySem.F.plainAttrs_list PySem.F.slot_list_extend PySem.F.type_list_extend mt_extend (pv 1) (pa_cons (pe_lst (pa_cons (pv 2) (pa_cons (pe_op op_fdiv (pv 2) pe_int) (pa_cons (pe_op op_fdiv (pv 2) pe_int) pa_nil)))) pa_nil)))))
      (pss_one (ps_ret (pv 1))))), ?_⟩
    refine ⟨(by show 0 ≤ sizeLine; omega), fun fp hfp => ?_⟩
    refine ⟨_, rfl, l, rfl, ⟨_, (same_upd hfp).seq hl⟩, for_list (K := K) (a := l) (xs := ns.map V.int) (fun i σ Hx => ∃ (ms : List Int) (v : Option V), σ = [some (.ref l), some (.ref fp), v] ∧ Same H Hx ∧ Hx fp = some (.lst (ms.map V.int)) ∧ ms.length = 3 * i)
      ⟨[], none, rfl, same_upd hfp, upd_same, rfl⟩ (fun i σ Hx _ ⟨_, _, _, sx, _⟩ => sx.seq hl) ?_ ?_⟩
    · rintro i y σ Hx hi ⟨ms, v, rfl, sx, eF, hm⟩
      obtain ⟨z, hz', rfl⟩ := ints_get hi
      have hil : i < ns.length := (List.getElem?_eq_some_iff.mp hz').1
      refine ⟨_, rfl, .inl ⟨rfl, _, SqL.of eF⟩, _, rfl, _, rfl, _, _, rfl, rfl, ⟨by decide, by decide⟩, _, rfl, _, _, rfl, rfl, ⟨by decide, by decide⟩, (by show 3 ≤ sizeLine; decide), fun q1 hq1 => ?_⟩
      have e1 : (upd Hx q1 (.lst [V.int z, V.int (z / 4), V.int (z / 16)])) fp = some (.lst (ms.map V.int)) := same_upd hq1 _ _ eF
      refine ⟨fp, q1, _, _, rfl, rfl, e1, upd_same, line_mil (by simp; omega), ?_⟩
      refine ⟨ms ++ [z, z / 4, z / 16], _, rfl, fun b o e => ?_, ?_, by simp; omega⟩
      · rw [upd_ne (ne_of_none e hfp)]
        exact same_upd hq1 _ _ (sx b o e)
      · rw [upd_same, List.map_append]
        rfl
    · rintro σ Hx ⟨ms, v, rfl, sx, eF, hm⟩
      rw [List.length_map] at hm
      exact ⟨_, rfl, q fp ms Hx hfp eF sx hm⟩
theorem scLack : FnScope ["pile", "lack", "kind", "parts"] ["pile"] (defScope sLack) := ⟨rfl, rfl, rfl, by decide +kernel, rfl, by decide +kernel, by decide +kernel⟩
theorem ok_lack {f : Addr} {fd : FuncData} (F : Fun K "_law_lack" "_law_lack" sLack f fd) (T : Txt mg) : FnOk P w K mg base CX0 1 f fd ["pile"] (spLack K) := by
  refine F.ok scLack (fun vs H Q E h => ?_) (fun cdv A outer s H vs Q E hr h => ?_)
  · obtain ⟨pl, x, r, rfl, _⟩ := h; rfl
  · obtain ⟨pl, x, r, rfl, hP, hE, hz, q⟩ := h
    refine ⟨_, (pss_cons (ps_set (i := 1) scLack.nd rfl (Or.inl rfl) (pe_callB (call_max2 rfl) (by rfl) T.max boot_max (pa_cons pe_int (pa_cons (pe_op op_sub pe_int (pe_callB call_len_seq (by rfl) T.b.len PySem.boot_len (pa_cons (pe_ix ix_list (pe_ix ix_list (pv 0) (pe_un un_neg pe_int) (fun _ _ => rfl)) pe_int (fun _ _ => rfl)) pa_nil))) pa_nil))))
      (pss_cons (ps_for PassesOwn.never rfl (pi_list (pe_slice sl_list (pv 0) po_none (po_some (pe_un un_neg pe_int)))) (pg_tupL rfl (pgs_cons (pg_name (i := 2) scLack.nd rfl (Or.inl rfl)) (pgs_cons (pg_name (i := 3) scLack.nd rfl (Or.inl rfl)) pgs_nil)))
        (pss_one (ps_set (i := 1) scLack.nd rfl (Or.inl rfl) (pe_op op_add (pv 1) (pe_callB (call_max2 rfl) (by rfl) T.max boot_max (pa_cons pe_int (pa_cons (pe_op op_sub pe_int (pe_callB call_len_seq (by rfl) T.b.len PySem.boot_len (pa_cons (pv 3) pa_nil))) pa_nil)))))))
      (pss_one (ps_ret (pv 1))))), ?_⟩
    have hx := hE x List.mem_cons_self
    rw [refsE_cons] at hP
    refine ⟨_, rfl, _, rfl, pl, _, -1, _, rfl, rfl, SqL.of hP, atI_last _ _, x.e, _, 1, _, rfl, rfl, SqL.of hx.1, rfl, x.p, _, rfl, .inl (SqL.of hx.2.1), _, _, rfl, rfl, _, _, rfl, ?_⟩
    have e1 : (if 2 - (x.vs.length : Int) > 0 then 2 - (x.vs.length : Int) else 0) = ((2 - x.vs.length : Nat) : Int) := by split <;> omega
    show gName 1 (V.int (if 2 - (x.vs.length : Int) > 0 then 2 - (x.vs.length : Int) else 0)) _ _ _
    rw [e1]
    have hrl := refsE_len r
    have hcut : cutV (refsE r ++ [V.ref x.e]) none (some (-1)) = refsE r := by
      unfold cutV HT.sIx
      simp
      rw [show (-1 + (((refsE r).length : Int) + 1)).toNat = (refsE r).length by omega, List.take_left]
    refine ⟨_, rfl, _, rfl, -1, rfl, pl, _, rfl, SqL.of hP, fun cp hcp => ?_⟩
    rw [hcut]
    have s1 : Same H (upd H cp (.lst (refsE r))) := same_upd hcp
    refine ⟨cp, rfl, ⟨_, SqL.of upd_same⟩, ?_⟩
    refine for_list (K := K) (a := cp) (xs := refsE r) (fun i σ Hx => Hx = upd H cp (.lst (refsE r)) ∧ ∃ v2 v3 : Option V, σ = [some (.ref pl), some (.int (((2 - x.vs.length) + ((r.reverse.take i).map fun y => 1 - y.vs.length).sum : Nat) : Int)), v2, v3])
      ⟨rfl, none, none, rfl⟩ (fun i σ Hx _ h => by rw [h.1]; exact SqL.of upd_same) ?_ ?_
    · rintro i y σ Hx hi ⟨rfl, v2, v3, rfl⟩
      obtain ⟨en, hen, rfl⟩ : ∃ en, r.reverse[i]? = some en ∧ y = V.ref en.e := by
        unfold refsE at hi
        rw [List.getElem?_map] at hi
        cases hh : r.reverse[i]? with
        | none => rw [hh] at hi; cases hi
        | some en => rw [hh] at hi; exact ⟨en, rfl, (Option.some.inj hi).symm⟩
      have hem : en ∈ x :: r := List.mem_cons_of_mem _ (List.mem_reverse.mp (List.mem_of_getElem? hen))
      have he := (hE en hem).mono s1
      refine ⟨en.e, _, rfl, SqL.of he.1, rfl, _, _, rfl, _, _, rfl, rfl, ?_⟩
      refine ⟨_, rfl, _, rfl, en.p, _, rfl, .inl (SqL.of he.2.1), _, _, rfl, rfl, _, _, rfl, _, _, rfl, rfl, ?_⟩
      refine ⟨rfl, some (.str (kS en.k)), some (.ref en.p), ?_⟩
      have e2 : (if 1 - (en.vs.length : Int) > 0 then 1 - (en.vs.length : Int) else 0) = ((1 - en.vs.length : Nat) : Int) := by split <;> omega
      have e3 : ((r.reverse.take (i + 1)).map fun y => 1 - y.vs.length).sum = ((r.reverse.take i).map fun y => 1 - y.vs.length).sum + (1 - en.vs.length) := by
        rw [List.take_succ, hen]
        simp
      rw [e3]
      show [some (V.ref pl), some (V.int ((((2 - x.vs.length) + ((r.reverse.take i).map fun y => 1 - y.vs.length).sum : Nat) : Int) + (if 1 - (en.vs.length : Int) > 0 then 1 - (en.vs.length : Int) else 0))), _, _] = _
      rw [e2, ← Int.natCast_add, Nat.add_assoc]
    · rintro σ Hx ⟨rfl, v2, v3, rfl⟩
      have e4 : (2 - x.vs.length) + ((r.reverse.take (refsE r).length).map fun y => 1 - y.vs.length).sum = lackR (x :: r) := by
        rw [hrl, List.take_of_length_le (by rw [List.length_reverse]; exact Nat.le_refl _)]
        unfold lackR lackT
        congr 1
        simp
      rw [e4]
      exact ⟨_, rfl, q _ s1⟩
theorem scNest : FnScope ["cells", "kind", "most", "pile", "words", "cell", "room", "closed"] ["cells", "kind", "most"] (defScope sNest) := ⟨rfl, rfl, rfl, by decide +kernel, rfl, by decide +kernel, by decide +kernel⟩
theorem ok_nest {f fL : Addr} {fd fdL : FuncData} (F : Fun K "_law_nest" "_law_nest" sNest f fd) (T : Txt mg) (GL : FnOk P w K mg base CX0 1 fL fdL ["pile"] (spLack K)) (kL : PySem.W.keepIn K (.ref fL) = true) (mL : mg "_law_lack" = some (.ref fL)) (bL : Binds K fdL ["pile"] []) :
    FnOk P w K mg base CX0 2 f fd ["cells", "kind", "most"] (spNest K) := by
  refine F.ok scNest (fun vs H Q E h => ?_) (fun cdv A outer s H vs Q E hr h => ?_)
  · obtain ⟨l, cs, k, most, rfl, _⟩ := h; rfl
  · obtain ⟨l, cs, k, most, rfl, hl, hz, q⟩ := h
    refine ⟨_, (pss_cons (ps_if (pw_or (pt_cmpR op_lt (pv 2) pe_int (nomark _)) (pw_or1 (pt_cmpR (op_eqL hr.units0) (pv 0) (pe_lst pa_nil) (nomark _)))).pt (pss_one (ps_ret pe_non)) pss_nil)
      (pss_cons (ps_set (i := 3) scNest.nd rfl (Or.inl rfl) (pe_lst (pa_cons (pe_lst (pa_cons (pv 1) (pa_cons (pe_lst pa_nil) pa_nil))) pa_nil)))
      (pss_cons (ps_set (i := 4) scNest.nd rfl (Or.inl rfl) pe_int)
      (pss_cons (ps_for PassesOwn.never rfl (pi_list (pv 0)) (pg_name (i := 5) scNest.nd rfl (Or.inl rfl))
        (pss_cons (ps_set (i := 6) scNest.nd rfl (Or.inl rfl) (pe_op op_sub (pe_op op_sub (pv 2) (pv 4)) (pe_call GL hr (by rfl) mL kL bL .nil pass0 (pa_cons (pv 3) pa_nil))))
      (pss_one (ps_if (pw_and (pt_cmpR op_eq (pe_op op_mod (pv 5) pe_int) pe_int (nomark _)) (pw_and1 (pw_or (pt_cmpR op_gt (pv 6) pe_int (nomark _)) (pw_or1 (pw_and (pt_cmpR op_eq (pv 6) pe_int (nomark _)) (pw_and1 (pt_cmpR op_lt (pe_callB call_len_seq (by rfl) T.b.len PySem.boot_len (pa_cons (pe_ix ix_list (pe_ix ix_list (pv 3) (pe_un un_neg pe_int) (fun _ _ => rfl)) pe_int (fun _ _ => rfl)) pa_nil)) pe_int (nomark _)))).pt)).pt)).pt
              (pss_one (ps_expr (pe_bm PySem.F.plainAttrs_list PySem.F.slot_list_append PySem.F.type_list_append mt_append (pv 3) (pa_cons (pe_lst (pa_cons (pe_ix ix_str pe_str (pe_callTy call_int1 (by rfl) T.b.int boot_ty_int (pa_cons (pe_cmpR op_eq (pe_ix ix_list (pe_ix ix_list (pv 3) (pe_un un_neg pe_int) (fun _ _ => rfl)) pe_int (fun _ _ => rfl)) pe_str (nomark _)) pa_nil)) (fun _ _ => rfl)) (pa_cons (pe_lst pa_nil) pa_nil))) pa_nil))))
              (pss_one (ps_if (pw_and (pt_cmpR op_eq (pe_op op_mod (pv 5) pe_int) pe_int (nomark _)) (pw_and (pt_cmpR op_gt (pe_callB call_len_seq (by rfl) T.b.len PySem.boot_len (pa_cons (pv 3) pa_nil)) pe_int (nomark _)) (pw_and1 (pt_cmpR op_gt (pe_callB call_len_seq (by rfl) T.b.len PySem.boot_len (pa_cons (pe_ix ix_list (pe_ix ix_list (pv 3) (pe_un un_neg pe_int) (fun _ _ => rfl)) pe_int (fun _ _ => rfl)) pa_nil)) pe_int (nomark _))))).pt
                (pss_cons (ps_set (i := 7) scNest.nd rfl (Or.inl rfl) (pe_bm0 PySem.F.plainAttrs_list PySem.F.slot_list_pop PySem.F.type_list_pop mt_pop (pv 3)))
      (pss_one (ps_expr (pe_bm PySem.F.plainAttrs_list PySem.F.slot_list_append PySem.F.type_list_append mt_append (pe_ix ix_list (pe_ix ix_list (pv 3) (pe_un un_neg pe_int) (fun _ _ => rfl)) pe_int (fun _ _ => rfl)) (pa_cons (pe_tup (pa_cons (pe_ix ix_list (pv 7) pe_int (fun _ _ => rfl)) (pa_cons (pe_callTy call_tuple_of (by rfl) T.b.tup boot_ty_tuple (pa_cons (pe_ix ix_list (pv 7) pe_int (fun _ _ => rfl)) pa_nil)) pa_nil))) pa_nil)))))
                (pss_one (ps_if (pw_or (pt_cmpR op_gt (pv 6) pe_int (nomark _)) (pw_or1 (pt_cmpR op_lt (pe_callB call_len_seq (by rfl) T.b.len PySem.boot_len (pa_cons (pe_ix ix_list (pe_ix ix_list (pv 3) (pe_un un_neg pe_int) (fun _ _ => rfl)) pe_int (fun _ _ => rfl)) pa_nil)) pe_int (nomark _)))).pt
                  (pss_cons (ps_expr (pe_bm PySem.F.plainAttrs_list PySem.F.slot_list_append PySem.F.type_list_append mt_append (pe_ix ix_list (pe_ix ix_list (pv 3) (pe_un un_neg pe_int) (fun _ _ => rfl)) pe_int (fun _ _ => rfl)) (pa_cons pe_non pa_nil)))
      (pss_one (ps_set (i := 4) scNest.nd rfl (Or.inl rfl) (pe_op op_add (pv 4) pe_int)))) pss_nil))))))))
      (pss_cons (ps_while PassesOwn.never (pt_cmpR op_gt (pe_callB call_len_seq (by rfl) T.b.len PySem.boot_len (pa_cons (pv 3) pa_nil)) pe_int (nomark _))
        (pss_cons (ps_set (i := 7) scNest.nd rfl (Or.inl rfl) (pe_bm0 PySem.F.plainAttrs_list PySem.F.slot_list_pop PySem.F.type_list_pop mt_pop (pv 3)))
      (pss_one (ps_expr (pe_bm PySem.F.plainAttrs_list PySem.F.slot_list_append PySem.F.type_list_append mt_append (pe_ix ix_list (pe_ix ix_list (pv 3) (pe_un un_neg pe_int) (fun _ _ => rfl)) pe_int (fun _ _ => rfl)) (pa_cons (pe_tup (pa_cons (pe_ix ix_list (pv 7) pe_int (fun _ _ => rfl)) (pa_cons (pe_callTy call_tuple_of (by rfl) T.b.tup boot_ty_tuple (pa_cons (pe_op op_cat (pe_ix ix_list (pv 7) pe_int (fun _ _ => rfl)) (pe_op op_rep (pe_lst (pa_cons pe_non pa_nil)) (pe_op op_sub pe_int (pe_callB call_len_seq (by rfl) T.b.len PySem.boot_len (pa_cons (pe_ix ix_list (pv 7) pe_int (fun _ _ => rfl)) pa_nil))))) pa_nil)) pa_nil))) pa_nil))))))
      (pss_one (ps_ret (pe_tup (pa_cons (pv 1) (pa_cons (pe_callTy call_tuple_of (by rfl) T.b.tup boot_ty_tuple (pa_cons (pe_op op_cat (pe_ix ix_list (pe_ix ix_list (pv 3) pe_int (fun _ _ => rfl)) pe_int (fun _ _ => rfl)) (pe_op op_rep (pe_lst (pa_cons pe_non pa_nil)) (pe_op op_sub pe_int (pe_callB call_len_seq (by rfl) T.b.len PySem.boot_len (pa_cons (pe_ix ix_list (pe_ix ix_list (pv 3) pe_int (fun _ _ => rfl)) pe_int (fun _ _ => rfl)) pa_nil))))) pa_nil)) pa_nil)))))))))), ?_⟩
    refine ⟨_, rfl, _, _, rfl, rfl, _, rfl, ?_⟩
    by_cases hm2 : (most : Int) < 2
    · rw [decide_eq_true hm2]
      exact iteT (iteT (q .word .non H rfl rfl (.inr rfl) (Same.refl _)))
    rw [decide_eq_false hm2]
    refine iteF ⟨_, rfl, (by show 0 ≤ sizeLine; omega), fun e0 he0 => ⟨l, e0, _, _, rfl, rfl, (same_upd he0).seq hl, SqL.of upd_same, ?_⟩⟩
    cases cs with
    | nil => exact .inr ⟨true, rfl, _, rfl, iteT (q .word .non _ rfl rfl (.inr rfl) (same_upd he0))⟩
    | cons c0 cs =>
    refine .inl ⟨by simp, _, rfl, iteF ?_⟩
    have sB : Same H (upd H e0 (.lst [])) := same_upd he0
    have hlB : SqL K (upd H e0 (.lst [])) l ((c0 :: cs).map V.int) := sB.seq hl
    generalize upd H e0 (.lst []) = B at sB hlB ⊢
    refine ⟨_, rfl, (by show 0 ≤ sizeLine; omega), fun p0 hp0 => ⟨(by show 2 ≤ sizeLine; decide), fun e1 he1 => ⟨(by show 1 ≤ sizeLine; decide), fun pl hpl => ?_⟩⟩⟩
    have P0 := PileAt.start (K := K) (k := k) hp0 he1 hpl
    generalize upd (upd (upd B p0 (.lst [])) e1 (.lst [V.str (kS k), V.ref p0])) pl (.lst [V.ref e1]) = G0 at P0 ⊢
    refine ⟨_, rfl, l, rfl, ⟨_, P0.same.seq hlB⟩, ?_⟩
    refine for_list (K := K) (a := l) (xs := (c0 :: cs).map V.int) (fun i σ Hx => ∃ (x : Ent) (r : List Ent) (wd : Nat) (v5 v6 v7 : Option V), σ = [some (.ref l), some (.str (kS k)), some (.int (most : Int)), some (.ref pl), some (.int (wd : Int)), v5, v6, v7] ∧ PileAt K B Hx pl (x :: r) ∧ KindsR k (x :: r) ∧
        (∀ y ∈ x :: r, validL y.k y.ns = true) ∧ wd = pileW (x :: r) ∧ wd + lackR (x :: r) ≤ most ∧ r.length ≤ i ∧ ∀ y ∈ x :: r, y.vs.length ≤ i)
      ⟨_, [], 0, none, none, none, rfl, P0, rfl, (fun y hy => by cases List.mem_singleton.mp hy; rfl), rfl, (by show 0 + (2 + 0) ≤ most; omega), Nat.le_refl _, (fun y hy => by cases List.mem_singleton.mp hy; exact Nat.le_refl _)⟩ (fun i σ Hx _ ⟨_, _, _, _, _, _, _, hP, _⟩ => hP.same.seq hlB) ?_ ?_
    · rintro i y σ Hx hi ⟨x, r, wd, v5, v6, v7, rfl, hP, hK, hV, hw, hL, hrl, hvl⟩
      obtain ⟨c, hc, rfl⟩ := ints_get hi
      have hil : i < (c0 :: cs).length := (List.getElem?_eq_some_iff.mp hc).1
      refine ⟨_, rfl, _, rfl, _, _, rfl, rfl, _, rfl, pl, x, r, rfl, hP.here, hP.ents, by omega, fun H1 s1 => ⟨_, _, rfl, rfl, ?_⟩⟩
      have hP1 := hP.mono s1
      clear hP
      refine gname_go ?_
      dsimp only
      have hx := hP1.ents x List.mem_cons_self
      have hh : H1 pl = some (.lst (refsE r ++ [V.ref x.e])) := by rw [← refsE_cons]; exact hP1.here
      have hT := hvl x List.mem_cons_self
      refine if_go _ (dec_and (A := decide (V.int (c % 4) = V.int 0)) (B := decide (1 < (most : Int) - wd - (lackR (x :: r) : Nat)) || (decide (V.int ((most : Int) - wd - (lackR (x :: r) : Nat)) = V.int 1) && decide ((x.vs.length : Int) < 2)))
        (fun Q h => ⟨_, rfl, _, _, rfl, rfl, (by show (0 : Int) < 4; decide), rfl, _, rfl, h⟩) (dec_or (fun Q h => ⟨_, rfl, _, _, rfl, rfl, _, rfl, h⟩) (dec_and (fun Q h => ⟨_, rfl, rfl, _, rfl, h⟩) (fun Q h => ⟨_, rfl, _, rfl, pl, _, -1, _, rfl, rfl, SqL.of hh, atI_last _ _, x.e, _, 1, _, rfl, rfl, SqL.of hx.1, rfl, x.p, _, rfl, .inl (SqL.of hx.2.1), _, _, rfl, rfl, _, rfl, h⟩)))) (fun hA => ?_) (fun _ => ?_)
      · -- one more is opened
        obtain ⟨ch, hch, hck⟩ := pick_kind x.k
        refine ⟨_, rfl, .inl ⟨rfl, _, SqL.of hh⟩, _, rfl, _, rfl, pl, _, -1, _, rfl, rfl, SqL.of hh, atI_last _ _, x.e, _, 0, _, rfl, rfl, SqL.of hx.1, rfl, rfl, .inr ⟨_, rfl, _, _, ch, rfl, rfl, (by decide +kernel), hch, ?_⟩⟩
        rw [hck]
        refine ⟨(by show 0 ≤ sizeLine; omega), fun p1 hp1 => ⟨(by show 2 ≤ sizeLine; decide), fun e2 he2 => ?_⟩⟩
        have hP2 := hP1.push (k := !x.k) hp1 he2
        have hh2 : (upd (upd H1 p1 (.lst [])) e2 (.lst [V.str (kS !x.k), V.ref p1])) pl = some (.lst (refsE (x :: r))) := (same_upd he2) _ _ ((same_upd hp1) _ _ hP1.here)
        refine ⟨pl, _, _, rfl, rfl, hh2, small1000 (by rw [refsE_len]; simp; omega), ?_⟩
        refine ⟨_, x :: r, wd, _, _, v7, rfl, hP2, ⟨rfl, hK⟩, ?_, ?_, ?_, by simp; omega, ?_⟩
        · intro z hz'
          rcases List.mem_cons.mp hz' with rfl | hz'
          · rfl
          · exact hV z hz'
        · rw [hw, pileW_cons ⟨e2, p1, !x.k, [], []⟩ (x :: r)]
          simp [wordsL]
        · have hA2 := (Bool.and_eq_true_iff.mp hA).2
          have hA3 : (1 < (most : Int) - wd - (lackR (x :: r) : Nat)) ∨ ((most : Int) - wd - (lackR (x :: r) : Nat) = 1 ∧ (x.vs.length : Int) < 2) := by
            rcases Bool.or_eq_true_iff.mp hA2 with h | h
            · exact .inl (of_decide_eq_true h)
            · obtain ⟨h1, h2⟩ := Bool.and_eq_true_iff.mp h
              exact .inr ⟨V.int.inj (of_decide_eq_true h1), of_decide_eq_true h2⟩
          show wd + ((2 - 0) + lackT (x :: r)) ≤ most
          rw [lackT_cons]
          have : lackR (x :: r) = (2 - x.vs.length) + lackT r := rfl
          omega
        · intro z hz'
          rcases List.mem_cons.mp hz' with rfl | hz'
          · exact Nat.zero_le _
          · have := hvl z hz'
            omega
      refine if_go _ (dec_and (A := decide (V.int (c % 4) = V.int 3)) (B := decide (1 < ((refsE (x :: r)).length : Int)) && decide (1 < (x.vs.length : Int)))
        (fun Q h => ⟨_, rfl, _, _, rfl, rfl, (by show (0 : Int) < 4; decide), rfl, _, rfl, h⟩) (dec_and (fun Q h => ⟨_, rfl, pl, _, rfl, .inl (SqL.of hP1.here), _, _, rfl, rfl, _, rfl, h⟩) (fun Q h => ⟨_, rfl, _, rfl, pl, _, -1, _, rfl, rfl, SqL.of hh, atI_last _ _, x.e, _, 1, _, rfl, rfl, SqL.of hx.1, rfl, x.p, _, rfl, .inl (SqL.of hx.2.1), _, _, rfl, rfl, _, rfl, h⟩))) (fun hA => ?_) (fun _ => ?_)
      · -- the last one is closed
        obtain ⟨hA1, hA2⟩ := Bool.and_eq_true_iff.mp (Bool.and_eq_true_iff.mp hA).2
        have hA1 : 1 < ((refsE (x :: r)).length : Int) := of_decide_eq_true hA1
        have hA2 : 1 < (x.vs.length : Int) := of_decide_eq_true hA2
        rw [refsE_len] at hA1
        cases r with
        | nil => exact absurd hA1 (by simp)
        | cons y r =>
        obtain ⟨hP2, hx2⟩ := hP1.pop
        refine ⟨_, rfl, .inl ⟨rfl, _, SqL.of hh⟩, pl, _, V.ref x.e, rfl, rfl, hh, (by simp), ?_⟩
        rw [List.dropLast_concat]
        generalize upd H1 pl (.lst (refsE (y :: r))) = H2 at hP2 hx2 ⊢
        have hh2 : H2 pl = some (.lst (refsE r ++ [V.ref y.e])) := by rw [← refsE_cons]; exact hP2.here
        have hy := hP2.ents y List.mem_cons_self
        refine ⟨_, rfl, _, rfl, pl, _, -1, _, rfl, rfl, SqL.of hh2, atI_last _ _, y.e, _, 1, _, rfl, rfl, SqL.of hy.1, rfl, .inl ⟨rfl, _, SqL.of hy.2.1⟩, _, rfl, x.e, _, 0, _, rfl, rfl, SqL.of hx2.1, rfl, _, rfl, x.e, _, 1, _, rfl, rfl, SqL.of hx2.1, rfl, x.p, _, rfl, .inl ⟨SqL.of hx2.2.1, fun b hb => ⟨(by show 2 ≤ sizeLine; decide), fun a ha => ?_⟩⟩⟩
        have sb : Same H2 (upd H2 b (.tup x.vs)) := same_upd hb
        have sa : Same (upd H2 b (.tup x.vs)) (upd (upd H2 b (.tup x.vs)) a (.tup [V.str (kS x.k), V.ref b])) := same_upd ha
        have hxl := hx2.2.2.len
        have hn : NestAt K (upd (upd H2 b (.tup x.vs)) a (.tup [V.str (kS x.k), V.ref b])) (.knot x.k x.ns) (V.ref a) := ⟨a, b, x.vs, rfl, upd_same, sa _ _ upd_same, by omega, by omega, NestsAt.mono (sb.trans sa) hx2.2.2⟩
        have hP3 := (hP2.mono (sb.trans sa)).add hn
        have hy3 := (hy.mono (sb.trans sa)).2.1
        refine ⟨y.p, y.vs, _, rfl, rfl, hy3, small1000 (by have := hvl y (by simp); omega), ?_⟩
        refine ⟨_, r, wd, _, _, _, rfl, hP3, kinds_top (y := y) rfl hK.2, ?_, ?_, ?_, by simp at hrl; omega, ?_⟩
        · intro z hz'
          rcases List.mem_cons.mp hz' with rfl | hz'
          · show validL y.k (y.ns ++ [.knot x.k x.ns]) = true
            rw [validL_app, hV y (by simp), Bool.true_and]
            show (valid (some y.k) (.knot x.k x.ns) && true) = true
            rw [valid_knot hK.1 (hV x (by simp))]
            rfl
          · exact hV z (by simp [hz'])
        · rw [hw, pileW_cons, pileW_cons, pileW_cons]
          show _ = wordsL (y.ns ++ [.knot x.k x.ns]) + pileW r
          rw [wordsL_app]
          have : wordsL [Nest.knot x.k x.ns] = wordsL x.ns := by simp [wordsL, words]
          omega
        · have e1 : lackR (x :: y :: r) = (2 - x.vs.length) + lackT (y :: r) := rfl
          rw [e1, lackT_cons] at hL
          show wd + ((2 - (y.vs ++ [V.ref a]).length) + lackT r) ≤ most
          rw [List.length_append]
          simp only [List.length_cons, List.length_nil]
          omega
        · intro z hz'
          rcases List.mem_cons.mp hz' with rfl | hz'
          · have := hvl y (by simp)
            show (y.vs ++ [V.ref a]).length ≤ i + 1
            simp
            omega
          · have := hvl z (by simp [hz'])
            omega
      refine if_go _ (dec_or (A := decide (0 < (most : Int) - wd - (lackR (x :: r) : Nat))) (B := decide ((x.vs.length : Int) < 2)) (fun Q h => ⟨_, rfl, _, _, rfl, rfl, _, rfl, h⟩) (fun Q h => ⟨_, rfl, _, rfl, pl, _, -1, _, rfl, rfl, SqL.of hh, atI_last _ _, x.e, _, 1, _, rfl, rfl, SqL.of hx.1, rfl, x.p, _, rfl, .inl (SqL.of hx.2.1), _, _, rfl, rfl, _, rfl, h⟩)) (fun hA => ?_) (fun _ => ?_)
      · -- a word
        have hA : 0 < (most : Int) - wd - (lackR (x :: r) : Nat) ∨ (x.vs.length : Int) < 2 := by
          rcases Bool.or_eq_true_iff.mp hA with h | h
          · exact .inl (of_decide_eq_true h)
          · exact .inr (of_decide_eq_true h)
        have hP3 := hP1.add (n := .word) (v := .non) rfl
        refine ⟨_, rfl, _, rfl, pl, _, -1, _, rfl, rfl, SqL.of hh, atI_last _ _, x.e, _, 1, _, rfl, rfl, SqL.of hx.1, rfl, .inl ⟨rfl, _, SqL.of hx.2.1⟩, x.p, x.vs, _, rfl, rfl, hx.2.1, small1000 (by omega), ?_⟩
        refine ⟨_, rfl, _, _, rfl, rfl, ?_⟩
        refine ⟨_, r, wd + 1, _, _, v7, rfl, hP3, kinds_top (y := x) rfl hK, ?_, ?_, ?_, by omega, ?_⟩
        · intro z hz'
          rcases List.mem_cons.mp hz' with rfl | hz'
          · show validL x.k (x.ns ++ [.word]) = true
            rw [validL_app, hV x (by simp)]
            rfl
          · exact hV z (by simp [hz'])
        · rw [hw, pileW_cons, pileW_cons]
          show _ = wordsL (x.ns ++ [.word]) + pileW r
          rw [wordsL_app]
          have : wordsL [Nest.word] = 1 := by simp [wordsL, words]
          omega
        · have e1 : lackR (x :: r) = (2 - x.vs.length) + lackT r := rfl
          rw [e1] at hL hA
          show wd + 1 + ((2 - (x.vs ++ [V.non]).length) + lackT r) ≤ most
          rw [List.length_append]
          simp only [List.length_cons, List.length_nil]
          omega
        · intro z hz'
          rcases List.mem_cons.mp hz' with rfl | hz'
          · show (x.vs ++ [V.non]).length ≤ i + 1
            simp
            omega
          · have := hvl z (by simp [hz'])
            omega
      · exact ⟨x, r, wd, _, _, v7, rfl, hP1, hK, hV, hw, hL, by omega, fun z hz' => by have := hvl z hz'; omega⟩
    rintro σ Hx ⟨x, r, wd, v5, v6, v7, rfl, hP, hK, hV, hw, hL, hrl, hvl⟩
    rw [List.length_map] at hrl hvl
    have fill : ∀ (x : Ent) (Hx : Hp) (np rp : Addr), Hx np = none → (upd Hx np (.lst [V.non])) rp = none → EntAt K Hx x → ∀ cp, (upd (upd Hx np (.lst [V.non])) rp (.lst (List.replicate (2 - (x.vs.length : Int)).toNat [V.non]).flatten)) cp = none →
        ∀ b, (upd (upd (upd Hx np (.lst [V.non])) rp (.lst (List.replicate (2 - (x.vs.length : Int)).toNat [V.non]).flatten)) cp (.lst (x.vs ++ (List.replicate (2 - (x.vs.length : Int)).toNat [V.non]).flatten))) b = none →
        ∀ a, (upd (upd (upd (upd Hx np (.lst [V.non])) rp (.lst (List.replicate (2 - (x.vs.length : Int)).toNat [V.non]).flatten)) cp (.lst (x.vs ++ (List.replicate (2 - (x.vs.length : Int)).toNat [V.non]).flatten))) b (.tup (x.vs ++ (List.replicate (2 - (x.vs.length : Int)).toNat [V.non]).flatten))) a = none → x.vs.length ≤ 900 →
        Same Hx (upd (upd (upd (upd (upd Hx np (.lst [V.non])) rp (.lst (List.replicate (2 - (x.vs.length : Int)).toNat [V.non]).flatten)) cp (.lst (x.vs ++ (List.replicate (2 - (x.vs.length : Int)).toNat [V.non]).flatten))) b (.tup (x.vs ++ (List.replicate (2 - (x.vs.length : Int)).toNat [V.non]).flatten))) a (.tup [V.str (kS x.k), V.ref b])) ∧
        NestAt K (upd (upd (upd (upd (upd Hx np (.lst [V.non])) rp (.lst (List.replicate (2 - (x.vs.length : Int)).toNat [V.non]).flatten)) cp (.lst (x.vs ++ (List.replicate (2 - (x.vs.length : Int)).toNat [V.non]).flatten))) b (.tup (x.vs ++ (List.replicate (2 - (x.vs.length : Int)).toNat [V.non]).flatten))) a (.tup [V.str (kS x.k), V.ref b])) (.knot x.k (x.ns ++ List.replicate (2 - x.vs.length) .word)) (V.ref a) := by
      intro x Hx np rp hnp hrp he cp hcp b hb a ha hbound
      have hk : (2 - (x.vs.length : Int)).toNat = 2 - x.vs.length := by omega
      have S : Same Hx _ := (same_upd hnp).trans ((same_upd hrp).trans ((same_upd hcp).trans ((same_upd hb).trans (same_upd (o := .tup [V.str (kS x.k), V.ref b]) ha))))
      refine ⟨S, a, b, _, rfl, upd_same, same_upd ha _ _ upd_same, ?_, ?_, ?_⟩
      · rw [rep_non, List.length_append, List.length_replicate]
        omega
      · rw [rep_non, List.length_append, List.length_replicate]
        omega
      · have e : (List.replicate (2 - (x.vs.length : Int)).toNat [V.non]).flatten = List.replicate (2 - x.vs.length) V.non := by rw [rep_non, hk]
        have A := NestsAt.app (NestsAt.mono S he.2.2) (NestsAt.rep (2 - x.vs.length))
        rw [← e] at A
        exact A
    refine ⟨fun m σ Hx => ∃ (x : Ent) (r : List Ent) (v7 : Option V), σ = [some (.ref l), some (.str (kS k)), some (.int (most : Int)), some (.ref pl), some (.int (wd : Int)), v5, v6, v7] ∧ PileAt K B Hx pl (x :: r) ∧ KindsR k (x :: r) ∧ (∀ y ∈ x :: r, validL y.k y.ns = true) ∧ pileW (x :: r) + lackR (x :: r) ≤ most ∧ (∀ y ∈ x :: r, y.vs.length + r.length ≤ 500) ∧ m = r.length,
      ⟨r.length, x, r, v7, rfl, hP, hK, hV, by omega, fun y hy => by have := hvl y hy; omega, rfl⟩, ?_⟩
    clear hw hL hrl hvl hP hK hV
    rintro m σ Hx ⟨x, r, v7, rfl, hP, hK, hV, hL, hb, rfl⟩
    have hx := hP.ents x List.mem_cons_self
    have hbx := hb x List.mem_cons_self
    have hlen := refsE_len (x :: r)
    refine ⟨_, rfl, pl, _, rfl, .inl (SqL.of hP.here), _, _, rfl, rfl, _, rfl, ?_⟩
    cases r with
    | nil =>
      refine iteF ?_
      have hk : x.k = k := hK
      refine ⟨_, rfl, _, rfl, pl, _, 0, _, rfl, rfl, SqL.of hP.here, rfl, x.e, _, 1, _, rfl, rfl, SqL.of hx.1, rfl, (by show 1 ≤ sizeLine; decide), fun np hnp => ?_⟩
      have h1 := (same_upd (o := .lst [V.non]) hnp)
      refine ⟨_, rfl, pl, _, 0, _, rfl, rfl, SqL.of (h1 _ _ hP.here), rfl, x.e, _, 1, _, rfl, rfl, SqL.of (h1 _ _ hx.1), rfl, x.p, _, rfl, .inl (SqL.of (h1 _ _ hx.2.1)), _, _, rfl, rfl, np, _, _, rfl, rfl, upd_same, by omega, by omega, line_mil (by simp; omega), fun rp hrp => ?_⟩
      refine ⟨x.p, rp, _, _, rfl, rfl, same_upd hrp _ _ (h1 _ _ hx.2.1), upd_same, line_mil (by rw [rep_non, List.length_replicate]; omega), fun cp hcp => ?_⟩
      refine ⟨cp, _, rfl, .inl ⟨SqL.of upd_same, fun b hb' => ⟨(by show 2 ≤ sizeLine; decide), fun a ha => ?_⟩⟩⟩
      rw [← hk]
      obtain ⟨S, N⟩ := fill x Hx np rp hnp hrp hx cp hcp b hb' a ha (by omega)
      refine q _ _ _ N ?_ ?_ (sB.trans (hP.same.trans S))
      · have := hV x (by simp)
        simp [valid, validL_app, validL_rep, this]
      · left
        have e1 : lackR [x] = (2 - x.vs.length) + 0 := rfl
        have e2 : pileW [x] = wordsL x.ns + 0 := by simp [pileW]
        simp only [words]
        rw [wordsL_app, wordsL_rep]
        omega
    | cons y r =>
      rw [decide_eq_true (by rw [hlen]; simp; omega)]
      refine iteT ⟨fun σ' Hy => ∃ (x : Ent) (r' : List Ent) (v7 : Option V), σ' = [some (.ref l), some (.str (kS k)), some (.int (most : Int)), some (.ref pl), some (.int (wd : Int)), v5, v6, v7] ∧ PileAt K B Hy pl (x :: r') ∧ KindsR k (x :: r') ∧ (∀ y ∈ x :: r', validL y.k y.ns = true) ∧ pileW (x :: r') + lackR (x :: r') ≤ most ∧ (∀ y ∈ x :: r', y.vs.length + r'.length ≤ 500) ∧ r'.length < (y :: r).length, ?_, ?_⟩
      · rintro σ' Hy ⟨x', r', v7', e, a1, a2, a3, a4, a5, a6⟩
        exact ⟨_, a6, x', r', v7', e, a1, a2, a3, a4, a5, rfl⟩
      have hh : Hx pl = some (.lst (refsE (y :: r) ++ [V.ref x.e])) := by rw [← refsE_cons]; exact hP.here
      obtain ⟨hP2, hx2⟩ := hP.pop
      refine ⟨_, rfl, .inl ⟨rfl, _, SqL.of hh⟩, pl, _, V.ref x.e, rfl, rfl, hh, (by simp), ?_⟩
      rw [List.dropLast_concat]
      generalize upd Hx pl (.lst (refsE (y :: r))) = H2 at hP2 hx2 ⊢
      have hh2 : H2 pl = some (.lst (refsE r ++ [V.ref y.e])) := by rw [← refsE_cons]; exact hP2.here
      have hy := hP2.ents y List.mem_cons_self
      refine ⟨_, rfl, _, rfl, pl, _, -1, _, rfl, rfl, SqL.of hh2, atI_last _ _, y.e, _, 1, _, rfl, rfl, SqL.of hy.1, rfl, .inl ⟨rfl, _, SqL.of hy.2.1⟩, _, rfl, x.e, _, 0, _, rfl, rfl, SqL.of hx2.1, rfl, _, rfl, x.e, _, 1, _, rfl, rfl, SqL.of hx2.1, rfl, (by show 1 ≤ sizeLine; decide), fun np hnp => ?_⟩
      have h1 := (same_upd (o := .lst [V.non]) hnp)
      refine ⟨_, rfl, x.e, _, 1, _, rfl, rfl, SqL.of (h1 _ _ hx2.1), rfl, x.p, _, rfl, .inl (SqL.of (h1 _ _ hx2.2.1)), _, _, rfl, rfl, np, _, _, rfl, rfl, upd_same, by omega, by omega, line_mil (by simp; omega), fun rp hrp => ?_⟩
      refine ⟨x.p, rp, _, _, rfl, rfl, same_upd hrp _ _ (h1 _ _ hx2.2.1), upd_same, line_mil (by rw [rep_non, List.length_replicate]; omega), fun cp hcp => ?_⟩
      refine ⟨cp, _, rfl, .inl ⟨SqL.of upd_same, fun b hb' => ⟨(by show 2 ≤ sizeLine; decide), fun a ha => ?_⟩⟩⟩
      obtain ⟨S, N⟩ := fill x H2 np rp hnp hrp hx2 cp hcp b hb' a ha (by omega)
      have hP3 := (hP2.mono S).add N
      have hby := hb y (by simp)
      simp only [List.length_cons] at hby hbx
      refine ⟨y.p, y.vs, _, rfl, rfl, S _ _ hy.2.1, small1000 (by omega), ?_⟩
      refine ⟨_, r, _, rfl, hP3, kinds_top (y := y) rfl hK.2, ?_, ?_, ?_, by simp⟩
      · intro z hz'
        rcases List.mem_cons.mp hz' with rfl | hz'
        · show validL y.k (y.ns ++ [.knot x.k _]) = true
          rw [validL_app, hV y (by simp), Bool.true_and]
          show (valid (some y.k) (.knot x.k _) && true) = true
          rw [valid_knot hK.1 (by rw [validL_app, hV x (by simp), validL_rep]; rfl)]
          rfl
        · exact hV z (by simp [hz'])
      · have e1 : lackR (x :: y :: r) = (2 - x.vs.length) + lackT (y :: r) := rfl
        rw [e1, lackT_cons, pileW_cons, pileW_cons] at hL
        rw [pileW_cons]
        show wordsL (y.ns ++ [.knot x.k (x.ns ++ List.replicate (2 - x.vs.length) .word)]) + pileW r + ((2 - (y.vs ++ [V.ref a]).length) + lackT r) ≤ most
        rw [wordsL_app, List.length_append]
        have : wordsL [Nest.knot x.k (x.ns ++ List.replicate (2 - x.vs.length) .word)] = wordsL x.ns + (2 - x.vs.length) := by
          simp only [wordsL, words, wordsL_app, wordsL_rep]
          omega
        simp only [List.length_cons, List.length_nil]
        omega
      · intro z hz'
        rcases List.mem_cons.mp hz' with rfl | hz'
        · show (y.vs ++ [V.ref a]).length + r.length ≤ 500
          simp
          omega
        · have := hb z (by simp [hz'])
          simp only [List.length_cons] at this
          omega
theorem has_cell (D0 : Def K mg "_law_cell" s_law_cell ["script", "k"]) (D1 : Def K mg "_law_stir" s_law_stir ["cell", "k"]) (T : Txt mg) : Has P w K mg base CX0 2 "_law_cell" ["script", "k"] (spCell K) := by
  obtain ⟨f0, fd0, F0, k0, m0, b0⟩ := D0.ex
  obtain ⟨f1, fd1, F1, k1, m1, b1⟩ := D1.ex
  exact ⟨f0, fd0, ok_cell F0 T F1 m1 b1, k0, m0, b0⟩
theorem has_more (D0 : Def K mg "_law_more" s_law_more ["cells"]) (T : Txt mg) : Has P w K mg base CX0 1 "_law_more" ["cells"] (spMore K) := by
  obtain ⟨f0, fd0, F0, k0, m0, b0⟩ := D0.ex
  exact ⟨f0, fd0, ok_more F0 T, k0, m0, b0⟩
theorem has_nest (D0 : Def K mg "_law_nest" s_law_nest ["cells", "kind", "most"]) (D1 : Def K mg "_law_lack" s_law_lack ["pile"]) (T : Txt mg) : Has P w K mg base CX0 2 "_law_nest" ["cells", "kind", "most"] (spNest K) := by
  obtain ⟨f0, fd0, F0, k0, m0, b0⟩ := D0.ex
  obtain ⟨f1, fd1, F1, k1, m1, b1⟩ := D1.ex
  exact ⟨f0, fd0, ok_nest F0 T (ok_lack F1 T) k1 m1 b1, k0, m0, b0⟩
theorem pick_two {j : Int} (h : j = 0 ∨ j = 1) : ∃ c, atI (Str.ofString "+-").cps.toList j = some c ∧ (⟨#[c]⟩ : Str) = kS (decide (j = 0)) := by
  rcases h with rfl | rfl
  · exact ⟨43, by decide +kernel, by decide +kernel⟩
  · exact ⟨45, by decide +kernel, by decide +kernel⟩
def spLaw (K : PySem.W.Frag) : Sp := spLawOf K
abbrev ns_law : List Str := ["script", "cell", "most", "nest", "text", "found", "k", "number", "thing"]
theorem sc_law : FnScope ns_law ["script"] (defScope s_law) := ⟨rfl, rfl, rfl, by decide +kernel, rfl, by decide +kernel, by decide +kernel⟩
theorem ok_law {C f : Addr} {fd : FuncData} (F : Fun K "law" "law" s_law f fd) (T : Txt mg) (h_law_cell : Has P w K mg base CX0 2 "_law_cell" ["script", "k"] (spCell K)) (h_law_more : Has P w K mg base CX0 1 "_law_more" ["cells"] (spMore K)) (h_law_nest : Has P w K mg base CX0 2 "_law_nest" ["cells", "kind", "most"] (spNest K))
    (h_law_text : Has P w K mg base CX0 1 "_law_text" ["nest"] (spText K)) (h_show_nest : Has P w K mg base (CXV P w) 61 "show_nest" ["nest"] (spShow K C)) (h_read_nest : Has P w K mg base (CXV P w) 4 "read_nest" ["text"] (spRead K C)) (h_law_spoilt : Has P w K mg base CX0 1 "_law_spoilt" ["text", "cell"] spSpoilt14) (h_law_small : Has P w K mg base CX0 1 "_law_small" ["cell"] spSmall14)
    (h_law_either : Has P w K mg base CX0 63 "_law_either" ["text"] (spEither K)) (h_law_none : Has P w K mg base CX0 1 "_law_none" ["nest", "cell"] (spNone K)) (h_law_refused : Has P w K mg base CX0 62 "_law_refused" ["thing", "way"] (spRefK K)) : FnOk P w K mg base CX0 64 f fd ["script"] (spLaw K) := by
  refine F.ok sc_law (fun vs H Q E h => ?_) (fun cdv A outer s H vs Q E hr h => ?_)
  · obtain ⟨a, ns, rfl, _⟩ := h; rfl
  · obtain ⟨a, ns, rfl, hS, hl, q⟩ := h
    refine go_c (ps_set (i := 1) sc_law.nd rfl (Or.inl rfl) (pe_has h_law_cell (hr.mono (by first | decide | omega)) (by rfl) pass0 (pa_cons (pv 0) (pa_cons pe_int pa_nil)))) ?_
    intro t0'
    refine go_c (ps_set (i := 2) sc_law.nd rfl (Or.inl rfl) (pe_ix ix_list (pe_lst (pa_cons (pe_op op_add pe_int (pe_op op_mod (pe_op op_fdiv (pv 1) pe_int) pe_int)) (pa_cons (pe_op op_add pe_int (pe_op op_mod (pe_op op_fdiv (pv 1) pe_int) pe_int)) pa_nil))) (pe_op op_mod (pe_op op_fdiv (pv 1) pe_int) pe_int) (fun _ _ => rfl))) ?_
    intro t1'
    refine go_c (ps_set (i := 3) sc_law.nd rfl (Or.inl rfl) (pe_has h_law_nest (hr.mono (by first | decide | omega)) (by rfl) pass0 (pa_cons (pe_has h_law_more (hr.mono (by first | decide | omega)) (by rfl) pass0 (pa_cons (pe_slice sl_list (pv 0) (po_some pe_int) (po_some pe_int)) pa_nil)) (pa_cons (pe_ix ix_str pe_str (pe_op op_mod (pv 1) pe_int) (fun _ _ => rfl)) (pa_cons (pv 2) pa_nil))))) ?_
    intro t2'
    refine go_c (ps_set (i := 4) sc_law.nd rfl (Or.inl rfl) (pe_has h_law_text (hr.mono (by first | decide | omega)) (by rfl) pass0 (pa_cons (pv 3) pa_nil))) ?_
    intro t3'
    refine go_c (ps_set (i := 5) sc_law.nd rfl (Or.inl rfl) (pe_has h_show_nest (hr.mono (by first | decide | omega)) (by rfl) pass0V (pa_cons (pv 3) pa_nil))) ?_
    intro t4'
    refine go_c (ps_if (PW.pt (pw_or (pt_not (pt_val (pe_callB call_isi (by rfl) T.b.isi boot_isi (pa_cons (pv 5) (pa_cons (pe_bltn (v := .ty "str") (by rfl) T.str boot_ty_str rfl) pa_nil))))) (pw_or (pt_cmpR op_ne (pv 5) (pv 4) (nomark _)) (pw_or1 (pt_cmpR (op_neN (units14 hr)) (pe_has h_read_nest (hr.mono (by first | decide | omega)) (by rfl) pass0V (pa_cons (pv 4) pa_nil)) (pv 3) (nomark _)))))) (pss_one (ps_ret pe_bl)) pss_nil) ?_
    intro t5'
    refine go_c (ps_for PassesOwn.never rfl (pi_range2 rfl T.b.rng (pa_cons pe_int (pa_cons pe_int pa_nil))) (pg_name (i := 6) sc_law.nd rfl (Or.inl rfl)) (pss_cons (ps_set (i := 7) sc_law.nd rfl (Or.inl rfl) (pe_has h_law_cell (hr.mono (by first | decide | omega)) (by rfl) pass0 (pa_cons (pv 0) (pa_cons (pv 6) pa_nil))))
      (pss_cons (ps_if (PW.pt (pw_or (pt_not (pt_val (pe_has h_law_either hr (by rfl) pass0 (pa_cons (pe_has h_law_spoilt (hr.mono (by first | decide | omega)) (by rfl) pass0 (pa_cons (pv 4) (pa_cons (pv 7) pa_nil))) pa_nil)))) (pw_or1 (pt_not (pt_val (pe_has h_law_either hr (by rfl) pass0 (pa_cons (pe_has h_law_small (hr.mono (by first | decide | omega)) (by rfl) pass0 (pa_cons (pv 7) pa_nil)) pa_nil))))))) (pss_one (ps_ret pe_bl)) pss_nil)
      (pss_one (ps_if (PW.pt (pw_or (pt_not (pt_val (pe_has h_law_refused (hr.mono (by first | decide | omega)) (by rfl) pass0 (pa_cons (pe_has h_law_none (hr.mono (by first | decide | omega)) (by rfl) pass0 (pa_cons (pv 3) (pa_cons (pv 7) pa_nil))) (pa_cons pe_int pa_nil))))) (pw_or1 (pt_not (pt_val (pe_has h_law_refused (hr.mono (by first | decide | omega)) (by rfl) pass0 (pa_cons (pe_op op_repS pe_str (pe_op op_mod (pv 7) pe_int)) (pa_cons pe_int pa_nil)))))))) (pss_one (ps_ret pe_bl)) pss_nil))))) ?_
    intro t6'
    refine go_c (ps_for PassesOwn.never rfl (pi_list (@pe_lst _ _ _ _ (@pa_c _ _ _ _ _ (by exact pe_non) (@pa_c _ _ _ _ _ (by exact pe_int) (@pa_c _ _ _ _ _ (by exact pe_bl) (@pa_c _ _ _ _ _ (by exact (pe_lst (pa_cons (pv 4) pa_nil))) (@pa_c _ _ _ _ _ (by exact (pe_tup (pa_cons (pv 4) pa_nil))) (@pa_c _ _ _ _ _ (by exact (pv 3)) (@pa_c _ _ _ _ _ (by exact (pe_lst (pa_cons pe_str pa_nil))) (@pa_c _ _ _ _ _ (by exact pe_dnewK) pa_nil (by rfl)) (by rfl)) (by rfl)) (by rfl)) (by rfl)) (by rfl)) (by rfl)) (by rfl)))) (pg_name (i := 8) sc_law.nd rfl (Or.inl rfl)) (pss_one (ps_if (pt_not (pt_val (pe_has h_law_refused (hr.mono (by first | decide | omega)) (by rfl) pass0 (pa_cons (pv 8) (pa_cons pe_int pa_nil))))) (pss_one (ps_ret pe_bl)) pss_nil))) ?_
    intro t7'
    refine go_c (ps_for PassesOwn.never rfl (pi_list (@pe_lst _ _ _ _ (@pa_c _ _ _ _ _ (by exact pe_int) (@pa_c _ _ _ _ _ (by exact (pv 4)) (@pa_c _ _ _ _ _ (by exact (pe_lst (pa_cons (pv 3) pa_nil))) (@pa_c _ _ _ _ _ (by exact (pe_tup (pa_cons pe_str (pa_cons (pe_tup (pa_cons (pv 3) pa_nil)) pa_nil)))) (@pa_c _ _ _ _ _ (by exact (pe_tup (pa_cons pe_str (pa_cons (pe_tup (pa_cons (pv 3) (pa_cons pe_int pa_nil))) pa_nil)))) (@pa_c _ _ _ _ _ (by exact (pe_tup (pa_cons pe_str (pa_cons (pe_lst (pa_cons pe_non (pa_cons pe_non pa_nil))) pa_nil)))) pa_nil (by rfl)) (by rfl)) (by rfl)) (by rfl)) (by rfl)) (by rfl)))) (pg_name (i := 8) sc_law.nd rfl (Or.inl rfl)) (pss_one (ps_if (pt_not (pt_val (pe_has h_law_refused (hr.mono (by first | decide | omega)) (by rfl) pass0 (pa_cons (pv 8) (pa_cons pe_int pa_nil))))) (pss_one (ps_ret pe_bl)) pss_nil))) ?_
    intro t8'
    refine go_1 (ps_ret (pe_cmpR (op_eqN (units14 hr)) (pe_has h_read_nest (hr.mono (by first | decide | omega)) (by rfl) pass0V (pa_cons (pv 4) pa_nil)) (pv 3) (nomark _))) ?_
    intro t9'
    refine ⟨_, rfl, a, ns, 0, rfl, hS, hl, by omega, by omega, fun c => ?_⟩
    refine gname_go ?_
    dsimp only [List.set]
    refine ⟨_, rfl, _, _, rfl, rfl, ⟨by decide, by decide⟩, _, _, rfl, rfl, (by show (0 : Int) < 8; decide), _, _, rfl, rfl, _, rfl, _, _, rfl, rfl, ⟨by decide, by decide⟩, _, _, rfl, rfl, (by show (0 : Int) < 59; decide), _, _, rfl, rfl, (by show 2 ≤ sizeLine; decide), fun lp hlp => ?_⟩
    have s0 : Same H (upd H lp (.lst [V.int (2 + c / 4 % 8), V.int (2 + c / 4 % 59)])) := same_upd hlp
    have e0 : (upd H lp (.lst [V.int (2 + c / 4 % 8), V.int (2 + c / 4 % 59)])) lp = some (.lst [V.int (2 + c / 4 % 8), V.int (2 + c / 4 % 59)]) := upd_same
    generalize upd H lp (.lst [V.int (2 + c / 4 % 8), V.int (2 + c / 4 % 59)]) = H0 at s0 e0 ⊢
    have hmost : ∃ m : Nat, atI [V.int (2 + c / 4 % 8), V.int (2 + c / 4 % 59)] (c / 2 % 2) = some (V.int (m : Int)) ∧ m ≤ 60 := by
      have : c / 2 % 2 = 0 ∨ c / 2 % 2 = 1 := by omega
      rcases this with h | h
      · exact ⟨(2 + c / 4 % 8).toNat, by rw [h]; show some (V.int (2 + c / 4 % 8)) = _; rw [show (((2 + c / 4 % 8).toNat : Nat) : Int) = 2 + c / 4 % 8 by omega], by omega⟩
      · exact ⟨(2 + c / 4 % 59).toNat, by rw [h]; show some (V.int (2 + c / 4 % 59)) = _; rw [show (((2 + c / 4 % 59).toNat : Nat) : Int) = 2 + c / 4 % 59 by omega], by omega⟩
    obtain ⟨m, hm, hm60⟩ := hmost
    refine ⟨_, rfl, _, _, rfl, rfl, ⟨by decide, by decide⟩, _, _, rfl, rfl, (by show (0 : Int) < 2; decide), lp, _, c / 2 % 2, _, rfl, rfl, SqL.of e0, hm, ?_⟩
    refine gname_go ?_
    dsimp only [List.set]
    refine ⟨_, rfl, 3, rfl, 63, rfl, a, _, rfl, s0.seq hS, fun x1 hx1 => ?_⟩
    have hcut : ∃ cs : List Int, cutV (ns.map V.int) (some 3) (some 63) = cs.map V.int ∧ cs.length ≤ 63 := by
      unfold cutV
      rw [← List.map_drop, ← List.map_take]
      refine ⟨_, rfl, ?_⟩
      rw [List.length_take, List.length_drop]
      omega
    obtain ⟨cs, hcs, hcl⟩ := hcut
    rw [hcs]
    have s1 := same_upd (o := .lst (cs.map V.int)) hx1
    refine ⟨x1, cs, rfl, SqL.of upd_same, hcl, fun fm ms H2 nfm efm s2 hml => ?_⟩
    have hj : c % 2 = 0 ∨ c % 2 = 1 := by omega
    obtain ⟨ch, hch, hck⟩ := pick_two hj
    refine ⟨_, rfl, _, _, rfl, rfl, (by show (0 : Int) < 2; decide), _, _, ch, rfl, rfl, (by decide +kernel), hch, ?_⟩
    rw [hck]
    have S2 : Same H H2 := s0.trans (s1.trans s2)
    refine ⟨_, rfl, fm, ms, _, m, rfl, SqL.of efm, by omega, fun n v G hN hV hW sG => ?_⟩
    have SG : Same H G := S2.trans sG
    have h60 : words n ≤ 60 := by omega
    have hok : okN n = true := by unfold okN; simp [hV, h60]
    refine gname_go ?_
    dsimp only [List.set]
    have hf := NestAt.fit hN hV
    have hlen := tx_len hf
    have tl : (txS n).length = (txN n).length := by simp [txS, Str.length]
    have tpos := tx_pos hf
    have hp : pts (txS n).cps.toList ≤ 900 := by rw [txS_cps]; have := pts_le (txN n); omega
    have hrd : readP (txS n).cps.toList = some n := by rw [txS_cps]; exact readP_text hf hok
    have hdp : depthN n ≤ 60 := by have := depth_words hN; omega
    refine ⟨_, rfl, v, n, rfl, hN, hV, h60, fun H3 s3 => ?_⟩
    refine gname_go ?_
    dsimp only [List.set]
    refine ⟨_, rfl, v, n, rfl, hN.mono s3, fun _ H4 s4 => ?_, fun bad => by rw [hok] at bad; cases bad⟩
    refine gname_go ?_
    dsimp only [List.set]
    have tl3 : (txS n).length ≤ 3000 := by omega
    show tSeq t5' (tSeq t6' (tSeq t7' (tSeq t8' t9'))) _ [some (.ref a), some (.int c), some (.int (m : Int)), some v, some (.str (txS n)), some (.str (txS n)), none, none, none] H4
    have S4 := s3.trans s4
    refine ⟨_, rfl, _, _, _, _, rfl, .str _, kit_same _ _, _, rfl, iteF ?_⟩
    refine ⟨_, rfl, _, rfl, rfl, _, rfl, ?_⟩
    rw [decide_eq_true rfl]
    refine iteF ?_
    refine ⟨_, rfl, .str (txS n), rfl, .inl ⟨txS n, rfl, tl3, hp, fun n' hn' v' H5 hN' s5 => ?_, fun bad => by rw [hrd] at bad; cases bad⟩⟩
    rw [hrd] at hn'
    cases hn'
    refine ⟨_, rfl, n, none, hN', (hN.mono S4).mono s5, hV, hdp, _, rfl, iteF ?_⟩
    have S5 := S4.trans s5
    refine ⟨1, 5, rfl, (by decide), for_range (n := 4) (lo := 1) (fun i σ Hx => ∃ v6 v7 : Option V, σ = [some (.ref a), some (.int c), some (.int (m : Int)), some v, some (.str (txS n)), some (.str (txS n)), v6, v7, none] ∧ Same G Hx) ⟨none, none, rfl, S5⟩ ?_ ?_⟩
    · rintro i σ Hx hi ⟨v6, v7, rfl, sx⟩
      refine gname_go ?_
      dsimp only [List.set]
      refine ⟨_, rfl, _, rfl, a, ns, 1 + (i : Int), rfl, (SG.trans sx).seq hS, hl, by omega, by omega, fun c2 => ?_⟩
      refine gname_go ?_
      dsimp only [List.set]
      refine ⟨_, rfl, _, rfl, txS n, c2, rfl, (by omega), (by omega), fun y H6 hy s6 => ?_⟩
      refine ⟨y, rfl, (by omega), (by have := pts_le y.cps.toList; have : y.cps.toList.length = y.length := by simp [Str.length]
                                      omega), fun H7 s7 => ⟨_, rfl, iteF ?_⟩⟩
      refine ⟨_, rfl, c2, rfl, fun z H8 hz s8 => ?_⟩
      refine ⟨z, rfl, (by omega), (by have := pts_le z.cps.toList; have : z.cps.toList.length = z.length := by simp [Str.length]
                                      omega), fun H9 s9 => ⟨_, rfl, iteF ?_⟩⟩
      have S9 := sx.trans (s6.trans (s7.trans (s8.trans s9)))
      refine ⟨_, rfl, _, rfl, v, n, c2, rfl, hN.mono S9, hV, h60, fun n' v' H10 hN2 hbad s10 => ?_⟩
      refine ⟨v', 1, rfl, .inr ⟨rfl, n', hN2, hbad⟩, fun H11 s11 => ⟨_, rfl, iteF ?_⟩⟩
      have r0 := Int.emod_nonneg c2 (show (500 : Int) ≠ 0 by decide)
      have r1 := Int.emod_lt_of_pos c2 (show (0 : Int) < 500 by decide)
      refine ⟨_, rfl, _, _, rfl, rfl, (by show (0 : Int) < 500; decide), "(+(-", (c2 % 500).toNat, rfl, (by rw [show (((c2 % 500).toNat : Nat) : Int) = c2 % 500 by omega]), (by decide +kernel), (by omega), ?_⟩
      refine ⟨_, 0, rfl, .inl ⟨rfl, .inl ⟨_, rfl, ?_, ?_, ?_⟩⟩, fun H12 s12 => ⟨_, rfl, iteF ⟨_, _, rfl, S9.trans (s10.trans (s11.trans s12))⟩⟩⟩
      · show (repS "(+(-" (c2 % 500).toNat).cps.size ≤ 3000
        rw [← Array.length_toList, opn_rep, opn_len]
        omega
      · rw [opn_rep, opn_pts]; decide
      · rw [opn_rep]; exact opn_none _
    rintro σ Hx ⟨v6, v7, rfl, sx⟩
    have hNx := hN.mono sx
    refine ⟨_, rfl, (by show 1 ≤ sizeLine; decide), fun q1 h1 => ?_⟩
    have t1 : Same Hx (upd Hx q1 (.lst [V.str (txS n)])) := same_upd h1
    have f1 : (upd Hx q1 (.lst [V.str (txS n)])) q1 = some (.lst [V.str (txS n)]) := upd_same
    generalize upd Hx q1 (.lst [V.str (txS n)]) = G1 at t1 f1 ⊢
    refine ⟨_, rfl, (by show 1 ≤ sizeLine; decide), fun q2 h2 => ?_⟩
    have t2 : Same G1 (upd G1 q2 (.tup [V.str (txS n)])) := same_upd h2
    have f2 : (upd G1 q2 (.tup [V.str (txS n)])) q2 = some (.tup [V.str (txS n)]) := upd_same
    generalize upd G1 q2 (.tup [V.str (txS n)]) = G2 at t2 f2 ⊢
    refine ⟨_, rfl, (by show 1 ≤ sizeLine; decide), fun q3 h3 => ?_⟩
    have t3 : Same G2 (upd G2 q3 (.lst [V.str "."])) := same_upd h3
    have f3 : (upd G2 q3 (.lst [V.str "."])) q3 = some (.lst [V.str "."]) := upd_same
    generalize upd G2 q3 (.lst [V.str "."]) = G3 at t3 f3 ⊢
    refine fun q4 h4 => ?_
    have t4 : Same G3 (upd G3 q4 (.dK [])) := same_upd h4
    have f4 : (upd G3 q4 (.dK [])) q4 = some (.dK []) := upd_same
    generalize upd G3 q4 (.dK []) = G4 at t4 f4 ⊢
    refine ⟨(by show 8 ≤ sizeLine; decide), fun q5 h5 => ?_⟩
    have t5 : Same G4 (upd G4 q5 (.lst [V.non, V.int 0, V.bl true, V.ref q1, V.ref q2, v, V.ref q3, V.ref q4])) := same_upd h5
    have f5 : (upd G4 q5 (.lst [V.non, V.int 0, V.bl true, V.ref q1, V.ref q2, v, V.ref q3, V.ref q4])) q5 = some (.lst [V.non, V.int 0, V.bl true, V.ref q1, V.ref q2, v, V.ref q3, V.ref q4]) := upd_same
    generalize upd G4 q5 (.lst [V.non, V.int 0, V.bl true, V.ref q1, V.ref q2, v, V.ref q3, V.ref q4]) = G5 at t5 f5 ⊢
    have u4 := t5
    have u3 := t4.trans u4
    have u2 := t3.trans u3
    have u1 := t2.trans u2
    have SX := t1.trans u1
    have hall : ∀ y ∈ [V.non, V.int 0, V.bl true, V.ref q1, V.ref q2, v, V.ref q3, V.ref q4], ∃ t, TyOf K G5 y t ∧ PySem.W.kitOne K t (.type "str") = some false := by
      intro y hy
      simp only [List.mem_cons, List.not_mem_nil, or_false] at hy
      rcases hy with rfl | rfl | rfl | rfl | rfl | rfl | rfl | rfl
      · exact ⟨_, .non, kit_not K rfl rfl (by decide +kernel)⟩
      · exact ⟨_, .int _, kit_not K rfl rfl (by decide +kernel)⟩
      · exact ⟨_, .bl _, kit_not K rfl rfl (by decide +kernel)⟩
      · exact ⟨_, .lst (u1 _ _ f1), kit_not K rfl rfl (by decide +kernel)⟩
      · exact ⟨_, .tup (u2 _ _ f2), kit_not K rfl rfl (by decide +kernel)⟩
      · exact NestAt.notStr (hNx.mono SX) hV
      · exact ⟨_, .lst (u3 _ _ f3), kit_not K rfl rfl (by decide +kernel)⟩
      · exact ⟨_, .dK (u4 _ _ f4), kit_not K rfl rfl (by decide +kernel)⟩
    refine ⟨q5, rfl, ⟨_, SqL.of f5⟩, for_list (K := K) (a := q5) (xs := [V.non, V.int 0, V.bl true, V.ref q1, V.ref q2, v, V.ref q3, V.ref q4]) (fun i σ Hy => ∃ v8 : Option V, σ = [some (.ref a), some (.int c), some (.int (m : Int)), some v, some (.str (txS n)), some (.str (txS n)), v6, v7, v8] ∧ Same G5 Hy) ⟨none, rfl, Same.refl _⟩ (fun i σ Hy _ ⟨_, _, sy⟩ => SqL.of (sy _ _ f5)) ?_ ?_⟩
    · rintro i u σ Hy hi ⟨v8, rfl, sy⟩
      refine gname_go ?_
      dsimp only [List.set]
      obtain ⟨ty, hty, hkt⟩ := hall u (List.mem_of_getElem? hi)
      exact ⟨_, rfl, u, 0, rfl, .inl ⟨rfl, .inr ⟨ty, Same.ty sy hty, hkt⟩⟩, fun H7 s7 => ⟨_, rfl, iteF ⟨_, rfl, sy.trans s7⟩⟩⟩
    rintro σ Hy ⟨v8, rfl, sy⟩
    have hNy := hNx.mono (SX.trans sy)
    have SHy := sx.trans (SX.trans sy)
    clear hall f1 f2 f3 f4 f5 t1 t2 t3 t4 t5 u1 u2 u3 u4
    refine ⟨_, rfl, _, rfl, (by show 1 ≤ sizeLine; decide), fun p1 h1 => ?_⟩
    have t1 : Same Hy (upd Hy p1 (.lst [v])) := same_upd h1
    have f1 : (upd Hy p1 (.lst [v])) p1 = some (.lst [v]) := upd_same
    generalize upd Hy p1 (.lst [v]) = K1 at t1 f1 ⊢
    refine ⟨_, rfl, (by show 1 ≤ sizeLine; decide), fun p2 h2 => ?_⟩
    have t2 : Same K1 (upd K1 p2 (.tup [v])) := same_upd h2
    have f2 : (upd K1 p2 (.tup [v])) p2 = some (.tup [v]) := upd_same
    generalize upd K1 p2 (.tup [v]) = K2 at t2 f2 ⊢
    refine ⟨(by show 2 ≤ sizeLine; decide), fun p3 h3 => ?_⟩
    have t3 : Same K2 (upd K2 p3 (.tup [V.str (kS true), V.ref p2])) := same_upd h3
    have f3 : (upd K2 p3 (.tup [V.str (kS true), V.ref p2])) p3 = some (.tup [V.str (kS true), V.ref p2]) := upd_same
    change _
    generalize hG3 : upd K2 p3 (.tup [V.str (kS true), V.ref p2]) = K3 at t3 f3
    rw [show upd K2 p3 (.tup [V.str "+", V.ref p2]) = K3 from hG3]
    refine ⟨_, rfl, (by show 2 ≤ sizeLine; decide), fun p4 h4 => ?_⟩
    have t4 : Same K3 (upd K3 p4 (.tup [v, V.int 0])) := same_upd h4
    have f4 : (upd K3 p4 (.tup [v, V.int 0])) p4 = some (.tup [v, V.int 0]) := upd_same
    generalize upd K3 p4 (.tup [v, V.int 0]) = K4 at t4 f4 ⊢
    refine ⟨(by show 2 ≤ sizeLine; decide), fun p5 h5 => ?_⟩
    have t5 : Same K4 (upd K4 p5 (.tup [V.str (kS true), V.ref p4])) := same_upd h5
    have f5 : (upd K4 p5 (.tup [V.str (kS true), V.ref p4])) p5 = some (.tup [V.str (kS true), V.ref p4]) := upd_same
    change _
    generalize hG5 : upd K4 p5 (.tup [V.str (kS true), V.ref p4]) = K5 at t5 f5
    rw [show upd K4 p5 (.tup [V.str "+", V.ref p4]) = K5 from hG5]
    refine ⟨(by show 2 ≤ sizeLine; decide), fun p6 h6 => ?_⟩
    have t6 : Same K5 (upd K5 p6 (.lst [V.non, V.non])) := same_upd h6
    have f6 : (upd K5 p6 (.lst [V.non, V.non])) p6 = some (.lst [V.non, V.non]) := upd_same
    generalize upd K5 p6 (.lst [V.non, V.non]) = K6 at t6 f6 ⊢
    refine ⟨(by show 2 ≤ sizeLine; decide), fun p7 h7 => ?_⟩
    have t7 : Same K6 (upd K6 p7 (.tup [V.str (kS false), V.ref p6])) := same_upd h7
    have f7 : (upd K6 p7 (.tup [V.str (kS false), V.ref p6])) p7 = some (.tup [V.str (kS false), V.ref p6]) := upd_same
    change _
    generalize hG7 : upd K6 p7 (.tup [V.str (kS false), V.ref p6]) = K7 at t7 f7
    rw [show upd K6 p7 (.tup [V.str "-", V.ref p6]) = K7 from hG7]
    refine ⟨(by show 6 ≤ sizeLine; decide), fun p8 h8 => ?_⟩
    have t8 : Same K7 (upd K7 p8 (.lst [V.int 0, V.str (txS n), V.ref p1, V.ref p3, V.ref p5, V.ref p7])) := same_upd h8
    have f8 : (upd K7 p8 (.lst [V.int 0, V.str (txS n), V.ref p1, V.ref p3, V.ref p5, V.ref p7])) p8 = some (.lst [V.int 0, V.str (txS n), V.ref p1, V.ref p3, V.ref p5, V.ref p7]) := upd_same
    generalize upd K7 p8 (.lst [V.int 0, V.str (txS n), V.ref p1, V.ref p3, V.ref p5, V.ref p7]) = K8 at t8 f8 ⊢
    clear hG3 hG5 hG7
    have u7 := t8
    have u6 := t7.trans u7
    have u5 := t6.trans u6
    have u4 := t5.trans u5
    have u3 := t4.trans u4
    have u2 := t3.trans u3
    have u1 := t2.trans u2
    have SY := t1.trans u1
    have hNz := hNy.mono SY
    have hall : ∀ y ∈ [V.int 0, V.str (txS n), V.ref p1, V.ref p3, V.ref p5, V.ref p7], ∃ nb, NestAt K K8 nb y ∧ okN nb = false := by
      intro y hy
      simp only [List.mem_cons, List.not_mem_nil, or_false] at hy
      rcases hy with rfl | rfl | rfl | rfl | rfl | rfl
      · exact ⟨_, bad_int K _ _, okN_bad⟩
      · exact ⟨_, bad_str K _ _, okN_bad⟩
      · exact ⟨_, bad_lst K (u1 _ _ f1), okN_bad⟩
      · exact ⟨_, bad_few K (u3 _ _ f3) (u2 _ _ f2) (by simp), okN_bad⟩
      · exact ⟨.knot true ([n] ++ [.bad] ++ []), ⟨p5, p4, _, rfl, u5 _ _ f5, u4 _ _ f4, (by simp), (by simp), NestsAt.app (NestsAt.app (NestsAt.one hNz) (NestsAt.one (bad_int K _ 0))) (show NestsAt K K8 [] [] from rfl)⟩, foul_in (.inl fun _ => rfl)⟩
      · exact ⟨_, bad_parts K (u7 _ _ f7) (u6 _ _ f6), okN_bad⟩
    refine ⟨p8, rfl, ⟨_, SqL.of f8⟩, for_list (K := K) (a := p8) (xs := [V.int 0, V.str (txS n), V.ref p1, V.ref p3, V.ref p5, V.ref p7]) (fun i σ Hz => ∃ v8 : Option V, σ = [some (.ref a), some (.int c), some (.int (m : Int)), some v, some (.str (txS n)), some (.str (txS n)), v6, v7, v8] ∧ Same K8 Hz) ⟨v8, rfl, Same.refl _⟩ (fun i σ Hz _ ⟨_, _, sz⟩ => SqL.of (sz _ _ f8)) ?_ ?_⟩
    · rintro i u σ Hz hi ⟨v8, rfl, sz⟩
      refine gname_go ?_
      dsimp only [List.set]
      obtain ⟨nb, hnb, hbad⟩ := hall u (List.mem_of_getElem? hi)
      exact ⟨_, rfl, u, 1, rfl, .inr ⟨rfl, nb, hnb.mono sz, hbad⟩, fun H7 s7 => ⟨_, rfl, iteF ⟨_, rfl, sz.trans s7⟩⟩⟩
    rintro σ Hz ⟨v9, rfl, sz⟩
    refine ⟨_, rfl, .str (txS n), rfl, .inl ⟨txS n, rfl, tl3, hp, fun n' hn' v'' H8 hN'' s8 => ?_, fun bad => by rw [hrd] at bad; cases bad⟩⟩
    rw [hrd] at hn'
    cases hn'
    exact ⟨_, rfl, n, none, hN'', (hNz.mono sz).mono s8, hV, hdp, q _⟩
end
theorem all_mk {l : PySem.W.OpenLaw} {w : World} {K : PySem.W.Frag} {h : Heap} {mg : Str → Option Value} {fa f0 f1 f2 f3 f4 f5 f6 f7 f8 f9 f10 f11 f12 f13 f14 f15 f16 f17 f18 f19 f20 : Addr} (X : K.In h) (G : h.Ns mainGlobals mg) (hfa : mg "law" = some (.ref fa))
    {od0 an0 : Option Addr} {sl0 : Array (Option Value)} {oc0 kV0 dc0 pm0 cd0 ct0 : Value}
    (a0 : PySem.W.nsIn K mainGlobals "is_nest" = some (some (.ref f0))) (l0 : K.lookup f0 = some ⟨oc0, od0, .func (PySem.W.fnOf "is_nest" "is_nest" (defArgs s_is_nest) (defBody s_is_nest) (defScope s_is_nest) .none kV0 dc0 pm0 an0 cd0 ct0), sl0⟩)
    (c0 : PySem.W.codeIn K cd0 "is_nest" = true) (k0 : PySem.W.keepIn K (.ref f0) = true)
    {od1 an1 : Option Addr} {sl1 : Array (Option Value)} {oc1 kV1 dc1 pm1 cd1 ct1 : Value}
    (a1 : PySem.W.nsIn K mainGlobals "is_knot" = some (some (.ref f1))) (l1 : K.lookup f1 = some ⟨oc1, od1, .func (PySem.W.fnOf "is_knot" "is_knot" (defArgs s_is_knot) (defBody s_is_knot) (defScope s_is_knot) .none kV1 dc1 pm1 an1 cd1 ct1), sl1⟩)
    (c1 : PySem.W.codeIn K cd1 "is_knot" = true) (k1 : PySem.W.keepIn K (.ref f1) = true)
    {od2 an2 : Option Addr} {sl2 : Array (Option Value)} {oc2 kV2 dc2 pm2 cd2 ct2 : Value}
    (a2 : PySem.W.nsIn K mainGlobals "must_be_nest" = some (some (.ref f2))) (l2 : K.lookup f2 = some ⟨oc2, od2, .func (PySem.W.fnOf "must_be_nest" "must_be_nest" (defArgs s_must_be_nest) (defBody s_must_be_nest) (defScope s_must_be_nest) .none kV2 dc2 pm2 an2 cd2 ct2), sl2⟩)
    (c2 : PySem.W.codeIn K cd2 "must_be_nest" = true) (k2 : PySem.W.keepIn K (.ref f2) = true)
    {od3 an3 : Option Addr} {sl3 : Array (Option Value)} {oc3 kV3 dc3 pm3 cd3 ct3 : Value}
    (a3 : PySem.W.nsIn K mainGlobals "show_nest" = some (some (.ref f3))) (l3 : K.lookup f3 = some ⟨oc3, od3, .func (PySem.W.fnOf "show_nest" "show_nest" (defArgs s_show_nest) (defBody s_show_nest) (defScope s_show_nest) .none kV3 dc3 pm3 an3 cd3 ct3), sl3⟩)
    (c3 : PySem.W.codeIn K cd3 "show_nest" = true) (k3 : PySem.W.keepIn K (.ref f3) = true)
    {od4 an4 : Option Addr} {sl4 : Array (Option Value)} {oc4 kV4 dc4 pm4 cd4 ct4 : Value}
    (a4 : PySem.W.nsIn K mainGlobals "written" = some (some (.ref f4))) (l4 : K.lookup f4 = some ⟨oc4, od4, .func (PySem.W.fnOf "written" "written" (defArgs s_written) (defBody s_written) (defScope s_written) .none kV4 dc4 pm4 an4 cd4 ct4), sl4⟩)
    (c4 : PySem.W.codeIn K cd4 "written" = true) (k4 : PySem.W.keepIn K (.ref f4) = true)
    {od5 an5 : Option Addr} {sl5 : Array (Option Value)} {oc5 kV5 dc5 pm5 cd5 ct5 : Value}
    (a5 : PySem.W.nsIn K mainGlobals "read_nest" = some (some (.ref f5))) (l5 : K.lookup f5 = some ⟨oc5, od5, .func (PySem.W.fnOf "read_nest" "read_nest" (defArgs s_read_nest) (defBody s_read_nest) (defScope s_read_nest) .none kV5 dc5 pm5 an5 cd5 ct5), sl5⟩)
    (c5 : PySem.W.codeIn K cd5 "read_nest" = true) (k5 : PySem.W.keepIn K (.ref f5) = true)
    {od6 an6 : Option Addr} {sl6 : Array (Option Value)} {oc6 kV6 dc6 pm6 cd6 ct6 : Value}
    (a6 : PySem.W.nsIn K mainGlobals "only_nest" = some (some (.ref f6))) (l6 : K.lookup f6 = some ⟨oc6, od6, .func (PySem.W.fnOf "only_nest" "only_nest" (defArgs s_only_nest) (defBody s_only_nest) (defScope s_only_nest) .none kV6 dc6 pm6 an6 cd6 ct6), sl6⟩)
    (c6 : PySem.W.codeIn K cd6 "only_nest" = true) (k6 : PySem.W.keepIn K (.ref f6) = true)
    {od7 an7 : Option Addr} {sl7 : Array (Option Value)} {oc7 kV7 dc7 pm7 cd7 ct7 : Value}
    (a7 : PySem.W.nsIn K mainGlobals "_law_stir" = some (some (.ref f7))) (l7 : K.lookup f7 = some ⟨oc7, od7, .func (PySem.W.fnOf "_law_stir" "_law_stir" (defArgs s_law_stir) (defBody s_law_stir) (defScope s_law_stir) .none kV7 dc7 pm7 an7 cd7 ct7), sl7⟩)
    (c7 : PySem.W.codeIn K cd7 "_law_stir" = true) (k7 : PySem.W.keepIn K (.ref f7) = true)
    {od8 an8 : Option Addr} {sl8 : Array (Option Value)} {oc8 kV8 dc8 pm8 cd8 ct8 : Value}
    (a8 : PySem.W.nsIn K mainGlobals "_law_cell" = some (some (.ref f8))) (l8 : K.lookup f8 = some ⟨oc8, od8, .func (PySem.W.fnOf "_law_cell" "_law_cell" (defArgs s_law_cell) (defBody s_law_cell) (defScope s_law_cell) .none kV8 dc8 pm8 an8 cd8 ct8), sl8⟩)
    (c8 : PySem.W.codeIn K cd8 "_law_cell" = true) (k8 : PySem.W.keepIn K (.ref f8) = true)
    {od9 an9 : Option Addr} {sl9 : Array (Option Value)} {oc9 kV9 dc9 pm9 cd9 ct9 : Value}
    (a9 : PySem.W.nsIn K mainGlobals "_law_more" = some (some (.ref f9))) (l9 : K.lookup f9 = some ⟨oc9, od9, .func (PySem.W.fnOf "_law_more" "_law_more" (defArgs s_law_more) (defBody s_law_more) (defScope s_law_more) .none kV9 dc9 pm9 an9 cd9 ct9), sl9⟩)
    (c9 : PySem.W.codeIn K cd9 "_law_more" = true) (k9 : PySem.W.keepIn K (.ref f9) = true)
    {od10 an10 : Option Addr} {sl10 : Array (Option Value)} {oc10 kV10 dc10 pm10 cd10 ct10 : Value}
    (a10 : PySem.W.nsIn K mainGlobals "_law_lack" = some (some (.ref f10))) (l10 : K.lookup f10 = some ⟨oc10, od10, .func (PySem.W.fnOf "_law_lack" "_law_lack" (defArgs s_law_lack) (defBody s_law_lack) (defScope s_law_lack) .none kV10 dc10 pm10 an10 cd10 ct10), sl10⟩)
    (c10 : PySem.W.codeIn K cd10 "_law_lack" = true) (k10 : PySem.W.keepIn K (.ref f10) = true)
    {od11 an11 : Option Addr} {sl11 : Array (Option Value)} {oc11 kV11 dc11 pm11 cd11 ct11 : Value}
    (a11 : PySem.W.nsIn K mainGlobals "_law_nest" = some (some (.ref f11))) (l11 : K.lookup f11 = some ⟨oc11, od11, .func (PySem.W.fnOf "_law_nest" "_law_nest" (defArgs s_law_nest) (defBody s_law_nest) (defScope s_law_nest) .none kV11 dc11 pm11 an11 cd11 ct11), sl11⟩)
    (c11 : PySem.W.codeIn K cd11 "_law_nest" = true) (k11 : PySem.W.keepIn K (.ref f11) = true)
    {od12 an12 : Option Addr} {sl12 : Array (Option Value)} {oc12 kV12 dc12 pm12 cd12 ct12 : Value}
    (a12 : PySem.W.nsIn K mainGlobals "_law_text" = some (some (.ref f12))) (l12 : K.lookup f12 = some ⟨oc12, od12, .func (PySem.W.fnOf "_law_text" "_law_text" (defArgs s_law_text) (defBody s_law_text) (defScope s_law_text) .none kV12 dc12 pm12 an12 cd12 ct12), sl12⟩)
    (c12 : PySem.W.codeIn K cd12 "_law_text" = true) (k12 : PySem.W.keepIn K (.ref f12) = true)
    {od13 an13 : Option Addr} {sl13 : Array (Option Value)} {oc13 kV13 dc13 pm13 cd13 ct13 : Value}
    (a13 : PySem.W.nsIn K mainGlobals "_law_closed" = some (some (.ref f13))) (l13 : K.lookup f13 = some ⟨oc13, od13, .func (PySem.W.fnOf "_law_closed" "_law_closed" (defArgs s_law_closed) (defBody s_law_closed) (defScope s_law_closed) .none kV13 dc13 pm13 an13 cd13 ct13), sl13⟩)
    (c13 : PySem.W.codeIn K cd13 "_law_closed" = true) (k13 : PySem.W.keepIn K (.ref f13) = true)
    {od14 an14 : Option Addr} {sl14 : Array (Option Value)} {oc14 kV14 dc14 pm14 cd14 ct14 : Value}
    (a14 : PySem.W.nsIn K mainGlobals "_law_read" = some (some (.ref f14))) (l14 : K.lookup f14 = some ⟨oc14, od14, .func (PySem.W.fnOf "_law_read" "_law_read" (defArgs s_law_read) (defBody s_law_read) (defScope s_law_read) .none kV14 dc14 pm14 an14 cd14 ct14), sl14⟩)
    (c14 : PySem.W.codeIn K cd14 "_law_read" = true) (k14 : PySem.W.keepIn K (.ref f14) = true)
    {od15 an15 : Option Addr} {sl15 : Array (Option Value)} {oc15 kV15 dc15 pm15 cd15 ct15 : Value}
    (a15 : PySem.W.nsIn K mainGlobals "_law_spoilt" = some (some (.ref f15))) (l15 : K.lookup f15 = some ⟨oc15, od15, .func (PySem.W.fnOf "_law_spoilt" "_law_spoilt" (defArgs s_law_spoilt) (defBody s_law_spoilt) (defScope s_law_spoilt) .none kV15 dc15 pm15 an15 cd15 ct15), sl15⟩)
    (c15 : PySem.W.codeIn K cd15 "_law_spoilt" = true) (k15 : PySem.W.keepIn K (.ref f15) = true)
    {od16 an16 : Option Addr} {sl16 : Array (Option Value)} {oc16 kV16 dc16 pm16 cd16 ct16 : Value}
    (a16 : PySem.W.nsIn K mainGlobals "_law_small" = some (some (.ref f16))) (l16 : K.lookup f16 = some ⟨oc16, od16, .func (PySem.W.fnOf "_law_small" "_law_small" (defArgs s_law_small) (defBody s_law_small) (defScope s_law_small) .none kV16 dc16 pm16 an16 cd16 ct16), sl16⟩)
    (c16 : PySem.W.codeIn K cd16 "_law_small" = true) (k16 : PySem.W.keepIn K (.ref f16) = true)
    {od17 an17 : Option Addr} {sl17 : Array (Option Value)} {oc17 kV17 dc17 pm17 cd17 ct17 : Value}
    (a17 : PySem.W.nsIn K mainGlobals "_law_refused" = some (some (.ref f17))) (l17 : K.lookup f17 = some ⟨oc17, od17, .func (PySem.W.fnOf "_law_refused" "_law_refused" (defArgs s_law_refused) (defBody s_law_refused) (defScope s_law_refused) .none kV17 dc17 pm17 an17 cd17 ct17), sl17⟩)
    (c17 : PySem.W.codeIn K cd17 "_law_refused" = true) (k17 : PySem.W.keepIn K (.ref f17) = true)
    {od18 an18 : Option Addr} {sl18 : Array (Option Value)} {oc18 kV18 dc18 pm18 cd18 ct18 : Value}
    (a18 : PySem.W.nsIn K mainGlobals "_law_none" = some (some (.ref f18))) (l18 : K.lookup f18 = some ⟨oc18, od18, .func (PySem.W.fnOf "_law_none" "_law_none" (defArgs s_law_none) (defBody s_law_none) (defScope s_law_none) .none kV18 dc18 pm18 an18 cd18 ct18), sl18⟩)
    (c18 : PySem.W.codeIn K cd18 "_law_none" = true) (k18 : PySem.W.keepIn K (.ref f18) = true)
    {od19 an19 : Option Addr} {sl19 : Array (Option Value)} {oc19 kV19 dc19 pm19 cd19 ct19 : Value}
    (a19 : PySem.W.nsIn K mainGlobals "_law_either" = some (some (.ref f19))) (l19 : K.lookup f19 = some ⟨oc19, od19, .func (PySem.W.fnOf "_law_either" "_law_either" (defArgs s_law_either) (defBody s_law_either) (defScope s_law_either) .none kV19 dc19 pm19 an19 cd19 ct19), sl19⟩)
    (c19 : PySem.W.codeIn K cd19 "_law_either" = true) (k19 : PySem.W.keepIn K (.ref f19) = true)
    {od20 an20 : Option Addr} {sl20 : Array (Option Value)} {oc20 kV20 dc20 pm20 cd20 ct20 : Value}
    (a20 : PySem.W.nsIn K mainGlobals "law" = some (some (.ref f20))) (l20 : K.lookup f20 = some ⟨oc20, od20, .func (PySem.W.fnOf "law" "law" (defArgs s_law) (defBody s_law) (defScope s_law) .none kV20 dc20 pm20 an20 cd20 ct20), sl20⟩)
    (c20 : PySem.W.codeIn K cd20 "law" = true) (k20 : PySem.W.keepIn K (.ref f20) = true)
    (z0 : PySem.W.nsIn K mainGlobals "len" = some none)
    (z1 : PySem.W.nsIn K mainGlobals "range" = some none)
    (z2 : PySem.W.nsIn K mainGlobals "list" = some none)
    (z3 : PySem.W.nsIn K mainGlobals "tuple" = some none)
    (z4 : PySem.W.nsIn K mainGlobals "isinstance" = some none)
    (z5 : PySem.W.nsIn K mainGlobals "int" = some none)
    (z6 : PySem.W.nsIn K mainGlobals "bool" = some none)
    (z7 : PySem.W.nsIn K mainGlobals "str" = some none)
    (z8 : PySem.W.nsIn K mainGlobals "max" = some none)
    (z9 : PySem.W.nsIn K mainGlobals "ValueError" = some none)
    {cTurnError cNoNest cNoOrder cNoWords cNoTurn cNoNumber cTooMany cNoText cNoRow : Addr}
    (gTurnError : PySem.W.nsIn K mainGlobals "TurnError" = some (some (.ref cTurnError)))
    (gNoNest : PySem.W.nsIn K mainGlobals "NoNest" = some (some (.ref cNoNest)))
    (gNoOrder : PySem.W.nsIn K mainGlobals "NoOrder" = some (some (.ref cNoOrder)))
    (gNoWords : PySem.W.nsIn K mainGlobals "NoWords" = some (some (.ref cNoWords)))
    (gNoTurn : PySem.W.nsIn K mainGlobals "NoTurn" = some (some (.ref cNoTurn)))
    (gNoNumber : PySem.W.nsIn K mainGlobals "NoNumber" = some (some (.ref cNoNumber)))
    (gTooMany : PySem.W.nsIn K mainGlobals "TooMany" = some (some (.ref cTooMany)))
    (gNoText : PySem.W.nsIn K mainGlobals "NoText" = some (some (.ref cNoText)))
    (gNoRow : PySem.W.nsIn K mainGlobals "NoRow" = some (some (.ref cNoRow)))
    (x1 : PySem.W.excIn K cNoNest bmVE "ValueError.__new__" = true)
    {cdA cdB : ClassData}
    (x2 : PySem.W.clsIn K cNoNest = some cdA)
    (x3 : PySem.W.findIn K (.ref cNoNest) "__getattribute__" = some (some (.builtin "BaseException.__getattribute__")))
    (x4 : PySem.W.findIn K (.ref cNoNest) "__getattr__" = some none)
    (x5 : PySem.W.findIn K (.ref cNoNest) "__class__" = some (some (.builtin "object.__class__")))
    (x6 : PySem.W.specialIn K (.builtin "object.__class__") "__get__" = some (some (.builtin "getset_descriptor.__get__")))
    (x7 : PySem.W.takesIn K (.builtin "object.__class__") = some true)
    (x8 : PySem.W.mroIn K cNoNest (.type "object") = some true)
    (x9 : PySem.W.mroIn K cNoNest (.type "BaseException") = some true)
    (t1 : PySem.W.clsIn K cTurnError = some cdB)
    (t2 : PySem.W.typeIn K (.ref cTurnError) = some (.type "type"))
    (t3 : PySem.W.mroIn K cTurnError (.type "BaseException") = some true)
    (t4 : PySem.W.mroIn K cNoNest (.ref cTurnError) = some true)
    (t5 : PySem.W.kitOne K (.ref cNoNest) (.type "ValueError") = some true)
    (t6 : PySem.W.kitAny K (.ref cNoNest) [.ref cNoOrder, .ref cNoWords, .ref cNoTurn, .ref cNoNumber] = some false)
    (t7 : PySem.W.kitAny K (.ref cNoNest) [.ref cTooMany, .ref cNoText, .ref cNoRow] = some false)
    {mw : Tok}
    (gM : PySem.W.nsIn K mainGlobals "MOST_WORDS" = some (some (.int 60 mw)))
    : ∃ fd : FuncData, (∀ (s : Shared) (v : Value), BindsTo s fd ⟨[v], []⟩ [("script", v)]) ∧ ∀ base : Heap, K.In base → base.Ns mainGlobals mg → FnOk l.prog w K mg base CX0 64 fa fd ["script"] (spLaw K) := by
  have e := hfa.symm.trans (PySem.W.mg_of X G a20)
  cases e
  have F0 := fun_mk (st := s_is_nest) l0 c0 k0
  have b0 := F0.binds (ps := ["thing"]) fun _ _ _ _ _ _ us hl => by obtain ⟨_, rfl⟩ := len_1 hl; rfl
  have m0 := PySem.W.mg_of X G a0
  have F1 := fun_mk (st := s_is_knot) l1 c1 k1
  have b1 := F1.binds (ps := ["thing"]) fun _ _ _ _ _ _ us hl => by obtain ⟨_, rfl⟩ := len_1 hl; rfl
  have m1 := PySem.W.mg_of X G a1
  have F2 := fun_mk (st := s_must_be_nest) l2 c2 k2
  have b2 := F2.binds (ps := ["thing"]) fun _ _ _ _ _ _ us hl => by obtain ⟨_, rfl⟩ := len_1 hl; rfl
  have m2 := PySem.W.mg_of X G a2
  have F3 := fun_mk (st := s_show_nest) l3 c3 k3
  have b3 := F3.binds (ps := ["nest"]) fun _ _ _ _ _ _ us hl => by obtain ⟨_, rfl⟩ := len_1 hl; rfl
  have m3 := PySem.W.mg_of X G a3
  have F4 := fun_mk (st := s_written) l4 c4 k4
  have b4 := F4.binds (ps := ["nest"]) fun _ _ _ _ _ _ us hl => by obtain ⟨_, rfl⟩ := len_1 hl; rfl
  have m4 := PySem.W.mg_of X G a4
  have F5 := fun_mk (st := s_read_nest) l5 c5 k5
  have b5 := F5.binds (ps := ["text"]) fun _ _ _ _ _ _ us hl => by obtain ⟨_, rfl⟩ := len_1 hl; rfl
  have m5 := PySem.W.mg_of X G a5
  have F6 := fun_mk (st := s_only_nest) l6 c6 k6
  have b6 := F6.binds (ps := ["things"]) fun _ _ _ _ _ _ us hl => by obtain ⟨_, rfl⟩ := len_1 hl; rfl
  have m6 := PySem.W.mg_of X G a6
  have F7 := fun_mk (st := s_law_stir) l7 c7 k7
  have b7 := F7.binds (ps := ["cell", "k"]) fun _ _ _ _ _ _ us hl => by obtain ⟨_, _, rfl⟩ := len_2 hl; rfl
  have m7 := PySem.W.mg_of X G a7
  have F8 := fun_mk (st := s_law_cell) l8 c8 k8
  have b8 := F8.binds (ps := ["script", "k"]) fun _ _ _ _ _ _ us hl => by obtain ⟨_, _, rfl⟩ := len_2 hl; rfl
  have m8 := PySem.W.mg_of X G a8
  have F9 := fun_mk (st := s_law_more) l9 c9 k9
  have b9 := F9.binds (ps := ["cells"]) fun _ _ _ _ _ _ us hl => by obtain ⟨_, rfl⟩ := len_1 hl; rfl
  have m9 := PySem.W.mg_of X G a9
  have F10 := fun_mk (st := s_law_lack) l10 c10 k10
  have b10 := F10.binds (ps := ["pile"]) fun _ _ _ _ _ _ us hl => by obtain ⟨_, rfl⟩ := len_1 hl; rfl
  have m10 := PySem.W.mg_of X G a10
  have F11 := fun_mk (st := s_law_nest) l11 c11 k11
  have b11 := F11.binds (ps := ["cells", "kind", "most"]) fun _ _ _ _ _ _ us hl => by obtain ⟨_, _, _, rfl⟩ := len_3 hl; rfl
  have m11 := PySem.W.mg_of X G a11
  have F12 := fun_mk (st := s_law_text) l12 c12 k12
  have b12 := F12.binds (ps := ["nest"]) fun _ _ _ _ _ _ us hl => by obtain ⟨_, rfl⟩ := len_1 hl; rfl
  have m12 := PySem.W.mg_of X G a12
  have F13 := fun_mk (st := s_law_closed) l13 c13 k13
  have b13 := F13.binds (ps := ["kind", "parts", "above"]) fun _ _ _ _ _ _ us hl => by obtain ⟨_, _, _, rfl⟩ := len_3 hl; rfl
  have m13 := PySem.W.mg_of X G a13
  have F14 := fun_mk (st := s_law_read) l14 c14 k14
  have b14 := F14.binds (ps := ["text"]) fun _ _ _ _ _ _ us hl => by obtain ⟨_, rfl⟩ := len_1 hl; rfl
  have m14 := PySem.W.mg_of X G a14
  have F15 := fun_mk (st := s_law_spoilt) l15 c15 k15
  have b15 := F15.binds (ps := ["text", "cell"]) fun _ _ _ _ _ _ us hl => by obtain ⟨_, _, rfl⟩ := len_2 hl; rfl
  have m15 := PySem.W.mg_of X G a15
  have F16 := fun_mk (st := s_law_small) l16 c16 k16
  have b16 := F16.binds (ps := ["cell"]) fun _ _ _ _ _ _ us hl => by obtain ⟨_, rfl⟩ := len_1 hl; rfl
  have m16 := PySem.W.mg_of X G a16
  have F17 := fun_mk (st := s_law_refused) l17 c17 k17
  have b17 := F17.binds (ps := ["thing", "way"]) fun _ _ _ _ _ _ us hl => by obtain ⟨_, _, rfl⟩ := len_2 hl; rfl
  have m17 := PySem.W.mg_of X G a17
  have F18 := fun_mk (st := s_law_none) l18 c18 k18
  have b18 := F18.binds (ps := ["nest", "cell"]) fun _ _ _ _ _ _ us hl => by obtain ⟨_, _, rfl⟩ := len_2 hl; rfl
  have m18 := PySem.W.mg_of X G a18
  have F19 := fun_mk (st := s_law_either) l19 c19 k19
  have b19 := F19.binds (ps := ["text"]) fun _ _ _ _ _ _ us hl => by obtain ⟨_, rfl⟩ := len_1 hl; rfl
  have m19 := PySem.W.mg_of X G a19
  have F20 := fun_mk (st := s_law) l20 c20 k20
  have y0 := PySem.W.mg_none_of X G z0
  have y1 := PySem.W.mg_none_of X G z1
  have y2 := PySem.W.mg_none_of X G z2
  have y3 := PySem.W.mg_none_of X G z3
  have y4 := PySem.W.mg_none_of X G z4
  have y5 := PySem.W.mg_none_of X G z5
  have y6 := PySem.W.mg_none_of X G z6
  have y7 := PySem.W.mg_none_of X G z7
  have y8 := PySem.W.mg_none_of X G z8
  have y9 := PySem.W.mg_none_of X G z9
  have Z : Excs K cTurnError cNoNest cNoOrder cNoWords cNoTurn cNoNumber cTooMany cNoText cNoRow := ⟨x1, ⟨by rw [x2]; rfl, x3, x4, x5, x6, x7, x8, x9⟩, ⟨by rw [t1]; rfl, t2, t3⟩, t4, t5, t6, t7⟩
  have mTurnError := PySem.W.mg_of X G gTurnError
  have mNoNest := PySem.W.mg_of X G gNoNest
  have mNoOrder := PySem.W.mg_of X G gNoOrder
  have mNoWords := PySem.W.mg_of X G gNoWords
  have mNoTurn := PySem.W.mg_of X G gNoTurn
  have mNoNumber := PySem.W.mg_of X G gNoNumber
  have mTooMany := PySem.W.mg_of X G gTooMany
  have mNoText := PySem.W.mg_of X G gNoText
  have mNoRow := PySem.W.mg_of X G gNoRow
  have mM := PySem.W.mg_of X G gM
  have D_is_nest : Def K mg "is_nest" s_is_nest ["thing"] := ⟨f0, _, F0, k0, m0, b0⟩
  have D_is_knot : Def K mg "is_knot" s_is_knot ["thing"] := ⟨f1, _, F1, k1, m1, b1⟩
  have D_must_be_nest : Def K mg "must_be_nest" s_must_be_nest ["thing"] := ⟨f2, _, F2, k2, m2, b2⟩
  have D_show_nest : Def K mg "show_nest" s_show_nest ["nest"] := ⟨f3, _, F3, k3, m3, b3⟩
  have D_written : Def K mg "written" s_written ["nest"] := ⟨f4, _, F4, k4, m4, b4⟩
  have D_read_nest : Def K mg "read_nest" s_read_nest ["text"] := ⟨f5, _, F5, k5, m5, b5⟩
  have D_only_nest : Def K mg "only_nest" s_only_nest ["things"] := ⟨f6, _, F6, k6, m6, b6⟩
  have D_law_stir : Def K mg "_law_stir" s_law_stir ["cell", "k"] := ⟨f7, _, F7, k7, m7, b7⟩
  have D_law_cell : Def K mg "_law_cell" s_law_cell ["script", "k"] := ⟨f8, _, F8, k8, m8, b8⟩
  have D_law_more : Def K mg "_law_more" s_law_more ["cells"] := ⟨f9, _, F9, k9, m9, b9⟩
  have D_law_lack : Def K mg "_law_lack" s_law_lack ["pile"] := ⟨f10, _, F10, k10, m10, b10⟩
  have D_law_nest : Def K mg "_law_nest" s_law_nest ["cells", "kind", "most"] := ⟨f11, _, F11, k11, m11, b11⟩
  have D_law_text : Def K mg "_law_text" s_law_text ["nest"] := ⟨f12, _, F12, k12, m12, b12⟩
  have D_law_closed : Def K mg "_law_closed" s_law_closed ["kind", "parts", "above"] := ⟨f13, _, F13, k13, m13, b13⟩
  have D_law_read : Def K mg "_law_read" s_law_read ["text"] := ⟨f14, _, F14, k14, m14, b14⟩
  have D_law_spoilt : Def K mg "_law_spoilt" s_law_spoilt ["text", "cell"] := ⟨f15, _, F15, k15, m15, b15⟩
  have D_law_small : Def K mg "_law_small" s_law_small ["cell"] := ⟨f16, _, F16, k16, m16, b16⟩
  have D_law_refused : Def K mg "_law_refused" s_law_refused ["thing", "way"] := ⟨f17, _, F17, k17, m17, b17⟩
  have D_law_none : Def K mg "_law_none" s_law_none ["nest", "cell"] := ⟨f18, _, F18, k18, m18, b18⟩
  have D_law_either : Def K mg "_law_either" s_law_either ["text"] := ⟨f19, _, F19, k19, m19, b19⟩
  have T : Txt mg := ⟨⟨y0, y1, y2, y3, y4, y5, y6⟩, y7, y8, y9⟩
  have fin : ∀ base : Heap, FnOk l.prog w K mg base CX0 64 fa _ ["script"] (spLaw K) := fun base =>
    have GM := has_must D_is_nest D_is_knot D_must_be_nest T mM mNoNest x1
    have GS := ok_show D_show_nest T GM (ok_written D_written T 60)
    have GR := ok_read D_read_nest T (ok_only D_only_nest T (has_isnest D_is_nest D_is_knot T mM) mNoNest x1) mNoNest x1
    have GF := ok_refused D_law_refused T Z GR GS mTurnError mNoNest mNoOrder mNoWords mNoTurn mNoNumber mTooMany mNoText mNoRow
    ok_law F20 T (has_cell D_law_cell D_law_stir T) (has_more D_law_more T) (has_nest D_law_nest D_law_lack T) (ok_text D_law_text T) GS GR (ok_spoilt D_law_spoilt T) (ok_small D_law_small T) (ok_either D_law_either T (ok_lread D_law_read T (ok_closed D_law_closed T)) GF GR) (ok_none D_law_none T) GF
  exact ⟨PySem.W.fnOf "law" "law" (defArgs s_law) (defBody s_law) (defScope s_law) .none kV20 dc20 pm20 an20 cd20 ct20, fun s v => .of_eq rfl, fun base _ _ => fin base⟩
theorem walk {l : PySem.W.OpenLaw} {q : Program} {loose : List Str} {XP : (Str → Option Value) → Heap → Prop} {YP : World → Heap → Prop} {d : DefRec} {K : Params → PySem.W.Frag} (hn : l.most = some 63) (hdf : d.params.defaults = [])
    (hY : ∀ (w : World) (h : Heap), YP w h → (K w.params).In h)
    (F : ∀ (w : World) (mg : Str → Option Value) (fa : Addr) (h : Heap), (K w.params).In h → h.Ns mainGlobals mg → mg d.name = some (.ref fa) → ∃ fd : FuncData, (∀ (s : Shared) (u : Value), BindsTo s fd ⟨[u], []⟩ [("script", u)]) ∧ ∀ base : Heap, (K w.params).In base → base.Ns mainGlobals mg → FnOk l.prog w (K w.params) mg base CX0 64 fa fd ["script"] (spLaw (K w.params))) :
    PySem.W.WalkO q loose XP YP l.row.toRowW d [] (fun f vs => PySem.call f vs) :=
  L2.walk_of (n := 63) (k := 64) (x := "script") (CX := fun _ => CX0) (sp := fun w => spLaw (K w.params)) hn (by decide) hdf ⟨rfl, by decide, by decide, rfl⟩ hY F (fun _ _ a ns hl _ hS => ⟨a, ns, rfl, hS, hl, fun _ => rfl⟩) fun _ _ _ _ _ z => z
end K14
open PySem PySem.W PyProof.Rows
set_option maxRecDepth 100000 in
set_option maxHeartbeats 0 in
theorem PySem.Challenge.cw_turnnest_k14_whole_nests_written_holds : PySem.Challenge.rw_turnnest_k14_whole_nests_written.Holds := by
  w_on; o_law; k_head; (case hw => w_witness2)
  k_fill
  refine K14.walk (l := PySem.Challenge.rw_turnnest_k14_whole_nests_written) rfl rfl (fun w h Y => PySem.W.kIn_of Y) ?F
  case F =>
    intro w mg fa h KX G hmg
    refine' K14.all_mk KX G hmg ?a0 ?l0 ?c0 ?k0 ?a1 ?l1 ?c1 ?k1 ?a2 ?l2 ?c2 ?k2 ?a3 ?l3 ?c3 ?k3 ?a4 ?l4 ?c4 ?k4 ?a5 ?l5 ?c5 ?k5 ?a6 ?l6 ?c6 ?k6 ?a7 ?l7 ?c7 ?k7 ?a8 ?l8 ?c8 ?k8 ?a9 ?l9 ?c9 ?k9 ?a10 ?l10 ?c10 ?k10 ?a11 ?l11 ?c11 ?k11 ?a12 ?l12 ?c12 ?k12 ?a13 ?l13 ?c13 ?k13 ?a14 ?l14 ?c14 ?k14 ?a15 ?l15 ?c15 ?k15 ?a16 ?l16 ?c16 ?k16 ?a17 ?l17 ?c17 ?k17 ?a18 ?l18 ?c18 ?k18 ?a19 ?l19 ?c19 ?k19 ?a20 ?l20 ?c20 ?k20 ?z0 ?z1 ?z2 ?z3 ?z4 ?z5 ?z6 ?z7 ?z8 ?z9 ?gTurnError ?gNoNest ?gNoOrder ?gNoWords ?gNoTurn ?gNoNumber ?gTooMany ?gNoText ?gNoRow ?x1 ?x2 ?x3 ?x4 ?x5 ?x6 ?x7 ?x8 ?x9 ?t1 ?t2 ?t3 ?t4 ?t5 ?t6 ?t7 ?gM
    (case a0 => k_is)
    (case l0 => k_is)
    (case c0 => k_is)
    (case k0 => k_is)
    (case a1 => k_is)
    (case l1 => k_is)
    (case c1 => k_is)
    (case k1 => k_is)
    (case a2 => k_is)
    (case l2 => k_is)
    (case c2 => k_is)
    (case k2 => k_is)
    (case a3 => k_is)
    (case l3 => k_is)
    (case c3 => k_is)
    (case k3 => k_is)
    (case a4 => k_is)
    (case l4 => k_is)
    (case c4 => k_is)
    (case k4 => k_is)
    (case a5 => k_is)
    (case l5 => k_is)
    (case c5 => k_is)
    (case k5 => k_is)
    (case a6 => k_is)
    (case l6 => k_is)
    (case c6 => k_is)
    (case k6 => k_is)
    (case a7 => k_is)
    (case l7 => k_is)
    (case c7 => k_is)
    (case k7 => k_is)
    (case a8 => k_is)
    (case l8 => k_is)
    (case c8 => k_is)
    (case k8 => k_is)
    (case a9 => k_is)
    (case l9 => k_is)
    (case c9 => k_is)
    (case k9 => k_is)
    (case a10 => k_is)
    (case l10 => k_is)
    (case c10 => k_is)
    (case k10 => k_is)
    (case a11 => k_is)
    (case l11 => k_is)
    (case c11 => k_is)
    (case k11 => k_is)
    (case a12 => k_is)
    (case l12 => k_is)
    (case c12 => k_is)
    (case k12 => k_is)
    (case a13 => k_is)
    (case l13 => k_is)
    (case c13 => k_is)
    (case k13 => k_is)
    (case a14 => k_is)
    (case l14 => k_is)
    (case c14 => k_is)
    (case k14 => k_is)
    (case a15 => k_is)
    (case l15 => k_is)
    (case c15 => k_is)
    (case k15 => k_is)
    (case a16 => k_is)
    (case l16 => k_is)
    (case c16 => k_is)
    (case k16 => k_is)
    (case a17 => k_is)
    (case l17 => k_is)
    (case c17 => k_is)
    (case k17 => k_is)
    (case a18 => k_is)
    (case l18 => k_is)
    (case c18 => k_is)
    (case k18 => k_is)
    (case a19 => k_is)
    (case l19 => k_is)
    (case c19 => k_is)
    (case k19 => k_is)
    (case a20 => k_is)
    (case l20 => k_is)
    (case c20 => k_is)
    (case k20 => k_is)
    (case z0 => k_is)
    (case z1 => k_is)
    (case z2 => k_is)
    (case z3 => k_is)
    (case z4 => k_is)
    (case z5 => k_is)
    (case z6 => k_is)
    (case z7 => k_is)
    (case z8 => k_is)
    (case z9 => k_is)
    (case gTurnError => k_is)
    (case gNoNest => k_is)
    (case gNoOrder => k_is)
    (case gNoWords => k_is)
    (case gNoTurn => k_is)
    (case gNoNumber => k_is)
    (case gTooMany => k_is)
    (case gNoText => k_is)
    (case gNoRow => k_is)
    (case x1 => k_exc)
    (case x2 => k_is)
    (case x3 => k_is)
    (case x4 => k_is)
    (case x5 => k_is)
    (case x6 => k_is)
    (case x7 => k_is)
    (case x8 => k_is)
    (case x9 => k_is)
    (case t1 => k_is)
    (case t2 => k_is)
    (case t3 => k_is)
    (case t4 => k_is)
    (case t5 => first | kit_is | k_is)
    (case t6 => first | kit_is | k_is)
    (case t7 => first | kit_is | k_is)
    (case gM => k_is)
