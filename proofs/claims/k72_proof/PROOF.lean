import PyProof.Rows.All
import Wide.All
import OpenK.AllK
import Wide.FinOn
import Lean
import PyProof.EqAt
import PyProof.EqKinds
import PyProof.TupleCall
import PyProof.NsDelKeeps
import PyProof.NeKinds
import PyProof.ListRange
import PyProof.SumWalkG
import PyProof.WalkInts
import PyProof.SeqI3
import KE.KUnpack
import PyProof.ReprRoads
import PySem.Challenge.RW_turnnest_k72_marked_texts_refused
set_option Elab.async false
set_option linter.all false
set_option maxRecDepth 100000
def PySem.W.Fast.tw6818757986154818532 : Unit := ()
def PySem.W.Fast.tw2805922350155798341 : Unit := ()
def PySem.W.Fast.tw5370850013768483008 : Unit := ()
def PySem.W.Fast.tw14172215617966172457 : Unit := ()
def PySem.W.Fast.tw7080183728713432648 : Unit := ()
def PySem.W.Fast.tw17088043340503180799 : Unit := ()
def PySem.W.Fast.tw11333054599351157205 : Unit := ()
def PySem.W.Fast.tw3786619558765291917 : Unit := ()
def PySem.W.Fast.tw40355939594289630 : Unit := ()
def PySem.W.Fast.tw12453718143455214918 : Unit := ()
def PySem.W.Fast.tw12740096010276533065 : Unit := ()
def PySem.W.Fast.tw1279801352064070383 : Unit := ()
def PySem.W.Fast.tw966560200877103843 : Unit := ()
def PySem.W.Fast.tw6398050075258645569 : Unit := ()
def PySem.W.Fast.tw16024075100271681171 : Unit := ()
def PySem.W.Fast.tw7947577931416797918 : Unit := ()
def PySem.W.Fast.tw12604044555032548935 : Unit := ()
def PySem.W.Fast.tw13414631809038270470 : Unit := ()
def PySem.W.Fast.tw8208503850252052177 : Unit := ()
def PySem.W.Fast.tw990917556697324804 : Unit := ()
def PySem.W.Fast.tw10844559455047233875 : Unit := ()
def PySem.W.Fast.tw6902216930685393918 : Unit := ()
def PySem.W.Fast.tw1828712376731264541 : Unit := ()
def PySem.W.Fast.tw2157102253048145959 : Unit := ()
def PySem.W.Fast.tw17495147831155635122 : Unit := ()
def PySem.W.Fast.tw15771991944297398064 : Unit := ()
def PySem.W.Fast.tw12760745694624381345 : Unit := ()
def PySem.W.Fast.tw4145823554961126345 : Unit := ()
def PySem.W.Fast.tw14757942993870935347 : Unit := ()
def PySem.W.Fast.tw12703901615707860911 : Unit := ()
def PySem.W.Fast.tw668569843952669532 : Unit := ()
def PySem.W.Fast.tw3909440817630354674 : Unit := ()
def PySem.W.Fast.tw6859759776296335181 : Unit := ()
def PySem.W.Fast.tw18177168074054442174 : Unit := ()
namespace L2
open PySem PySem.Spec PyProof.Rows
abbrev Key := Sum Int Str
def keyIs : Key → Value → Bool
  | .inl k, v => Value.isInt k v
  | .inr x, v => Value.isStrOf x v
def keyH (w : World) : Key → Int
  | .inl k => hashInt k
  | .inr x => hashStr w x
theorem keyIs_shape : ∀ {k : Key} {v : Value}, keyIs k v = true → (∃ i t, k = Sum.inl i ∧ v = Value.int i t) ∨ (∃ x t, k = Sum.inr x ∧ v = Value.str x t)
  | .inl i, v, h => by
    obtain ⟨t, e⟩ := Value.isInt_shape (k := i) (v := v) h
    exact .inl ⟨i, t, rfl, e⟩
  | .inr x, v, h => by
    obtain ⟨t, e⟩ := Value.isStrOf_shape (x := x) (v := v) h
    exact .inr ⟨x, t, rfl, e⟩
theorem key_ll (a b : Int) : decide ((Sum.inl a : Key) = Sum.inl b) = (a == b) := by
  by_cases e : a = b
  · subst e; simp
  · have h : ¬ (Sum.inl a : Key) = Sum.inl b := fun q => e (Sum.inl.inj q)
    rw [decide_eq_false h]
    exact (beq_eq_false_iff_ne.mpr e).symm
theorem key_rr (a b : Str) : decide ((Sum.inr a : Key) = Sum.inr b) = decide (a = b) := by
  by_cases e : a = b
  · subst e; simp
  · have h : ¬ (Sum.inr a : Key) = Sum.inr b := fun q => e (Sum.inr.inj q)
    rw [decide_eq_false h, decide_eq_false e]
theorem key_lr (a : Int) (b : Str) : decide ((Sum.inl a : Key) = Sum.inr b) = false := decide_eq_false (fun q => nomatch q)
theorem key_rl (a : Str) (b : Int) : decide ((Sum.inr a : Key) = Sum.inl b) = false := decide_eq_false (fun q => nomatch q)
def mixKind (prog : Program) (w : World) : PySem.KeyKind prog w Key where
  is := keyIs
  hash := keyH w
  inj := fun v a b ha hb => by
    rcases keyIs_shape ha with ⟨i, t, rfl, rfl⟩ | ⟨x, t, rfl, rfl⟩
    · rcases keyIs_shape hb with ⟨j, u, rfl, e⟩ | ⟨y, u, rfl, e⟩
      · injection e with e1 _; rw [e1]
      · exact nomatch e
    · rcases keyIs_shape hb with ⟨j, u, rfl, e⟩ | ⟨y, u, rfl, e⟩
      · exact nomatch e
      · injection e with e1 _; rw [e1]
  byValue := fun k v h => by
    rcases keyIs_shape h with ⟨i, t, rfl, rfl⟩ | ⟨x, t, rfl, rfl⟩ <;> rfl
  pyHash := fun hv h => by
    rcases keyIs_shape hv with ⟨i, t, rfl, rfl⟩ | ⟨x, t, rfl, rfl⟩
    · exact wpAny_pyHash_int h
    · exact wpAny_pyHash_str h
  eqBool := fun hu hv h => by
    rcases keyIs_shape hu with ⟨i, t, rfl, rfl⟩ | ⟨x, t, rfl, rfl⟩
    · rcases keyIs_shape hv with ⟨j, u, rfl, rfl⟩ | ⟨y, u, rfl, rfl⟩
      · rw [key_ll] at h; exact wpAny_eqBool_int h
      · rw [key_lr] at h; exact SeqAt.EqAt.int_str i t y u _ _ _ _ h
    · rcases keyIs_shape hv with ⟨j, u, rfl, rfl⟩ | ⟨y, u, rfl, rfl⟩
      · rw [key_rl] at h; exact SeqAt.EqAt.str_int x t j u _ _ _ _ h
      · rw [key_rr] at h; exact wpAny_eqBool_str h
  «strs» := fun k x t v h => by
    rcases keyIs_shape h with ⟨i, u, rfl, e⟩ | ⟨y, u, rfl, e⟩
    · exact nomatch e
    · injection e with e1 _
      subst e1
      cases v <;> rfl
end L2
namespace L2
open PySem PySem.Spec PyProof.Rows
inductive V where
  | non | bl (b : Bool) | int (i : Int) | str (x : Str) | byt (b : Array UInt8) | flt (b : UInt64) | ref (a : Addr) | ty (n : String)
  deriving DecidableEq
def RelV : V → Value → Prop
  | .non, u => u = Value.none
  | .bl b, u => u = Value.bool b
  | .int i, u => ∃ t, u = Value.int i t
  | .str x, u => ∃ t, u = Value.str x t
  | .byt b, u => ∃ t, u = Value.bytes b t
  | .flt b, u => ∃ t, u = Value.float b t
  | .ref a, u => u = Value.ref a
  | .ty n, u => u = Value.type n
abbrev Vals : List V → List Value → Prop := Paired RelV
theorem Vals.length {xs : List V} {us : List Value} (r : Vals xs us) : xs.length = us.length := Paired.length r
theorem Vals.get : ∀ {xs : List V} {us : List Value} {i : Nat} {x : V}, Vals xs us → xs[i]? = some x → ∃ u, us[i]? = some u ∧ RelV x u
  | _, _, _, _, .nil, e => by simp at e
  | _, _, 0, _, .cons r _, e => by simp at e; subst e; exact ⟨_, rfl, r⟩
  | _, _, i + 1, x, .cons _ t, e => by
    obtain ⟨u, h1, h2⟩ := Vals.get (i := i) (x := x) t (by simpa using e)
    exact ⟨u, by simpa using h1, h2⟩
theorem Vals.set {x : V} {u : Value} (r : RelV x u) : ∀ {xs : List V} {us : List Value} (i : Nat), Vals xs us → Vals (xs.set i x) (us.set i u)
  | _, _, _, .nil => .nil
  | _, _, 0, .cons _ t => .cons r t
  | _, _, i + 1, .cons q t => .cons q (Vals.set r i t)
theorem Vals.append : ∀ {xs ys : List V} {us ws : List Value}, Vals xs us → Vals ys ws → Vals (xs ++ ys) (us ++ ws)
  | _, _, _, _, .nil, s => s
  | _, _, _, _, .cons r t, s => .cons r (Vals.append t s)
theorem Vals.take : ∀ {xs : List V} {us : List Value} (n : Nat), Vals xs us → Vals (xs.take n) (us.take n)
  | _, _, 0, _ => .nil
  | _, _, _ + 1, .nil => .nil
  | _, _, n + 1, .cons r t => .cons r (Vals.take n t)
theorem Vals.drop : ∀ {xs : List V} {us : List Value} (n : Nat), Vals xs us → Vals (xs.drop n) (us.drop n)
  | _, _, 0, r => r
  | _, _, _ + 1, .nil => .nil
  | _, _, n + 1, .cons _ t => Vals.drop n t
def RelO : Option V → Option Value → Prop
  | some v, some u => RelV v u
  | none, none => True
  | _, _ => False
def KV {κ : Type} : List (κ × V) → List (κ × Value) → Prop := Paired fun (p : κ × V) (q : κ × Value) => p.1 = q.1 ∧ RelV p.2 q.2
def kV : Key → V
  | .inl i => .int i
  | .inr x => .str x
def IsTupN (h : Heap) (a : Addr) (items : Array Value) : Prop := ∃ o, h.get? a = some o ∧ o.cls = .type "tuple" ∧ (∃ n, o.data = .seq items n) ∧ o.dict = none
theorem IsTupN.tup {h : Heap} {a : Addr} {items : Array Value} (x : IsTupN h a items) : IsTup h a items := let ⟨o, e, c, d, _⟩ := x; ⟨o, e, c, d⟩
theorem IsTupN.new (h : Heap) (items : Array Value) : IsTupN (h.push { cls := .type "tuple", data := .seq items }) h.objs.size items := ⟨_, Heap.get?_push_size _ rfl, rfl, ⟨_, rfl⟩, rfl⟩
inductive HO where
  /-- a list -/
  | lst (xs : List V)
  /-- a tuple (never changes) -/
  | tup (xs : List V)
  /-- a dict whose keys are ints and texts; one whose keys are tuples of ints and texts (the empty one is both) -/
  | dK (kvs : List (Key × V)) | dT (kvs : List (List Key × V))
  /-- a set of ints: its members, its size -/
  | set (S : Int → Bool) (n : Nat)
  /-- an instance of the class at C, its dict at dx, its attributes -/
  | ins (C dx : Addr) (fs : List (Str × V))
  /-- the dict of the instance at x -/
  | own (x : Addr)
  /-- the dict of an exception -/
  | xd (fs : List (Str × V))
  /-- a bound method, f of x -/
  | met (f x : Addr)
  /-- a range object lo, lo + 1, .. below hi -/
  | rng (lo hi : Int)
  /-- a thing that is known to the object (the script; a dict while a loop walks it): read, never written while it is so -/
  | frz (o : Obj) (u : HO)
  /-- a code object's table -/
  | tbl (ps : Array Value)
  | lam (q : Str)
  /-- any other thing, by what is true of its one object (a def of one's own: SetO a S n := HO.ext fun h => ..) -/
  | ext (φ : Heap → Prop)
abbrev Hp := Addr → Option HO
def upd (H : Hp) (a : Addr) (o : HO) : Hp := fun b => if b = a then some o else H b
theorem upd_same {H : Hp} {a : Addr} {o : HO} : upd H a o a = some o := by unfold upd; rw [if_pos rfl]
theorem upd_ne {H : Hp} {a b : Addr} {o : HO} (h : b ≠ a) : upd H a o b = H b := by unfold upd; rw [if_neg h]
theorem upd_upd {H : Hp} {a : Addr} {o u : HO} : upd (upd H a o) a u = upd H a u := by
  funext b; unfold upd; split <;> rfl
theorem ne_of {H : Hp} {a b : Addr} {o u : HO} (h : H a = some o) (h' : H b = some u) (d : o ≠ u) : a ≠ b := by
  intro e; subst e; rw [h] at h'; exact d (Option.some.inj h')
theorem ne_of_none {H : Hp} {a b : Addr} {o : HO} (h : H a = some o) (h' : H b = none) : a ≠ b := by
  intro e; subst e; rw [h] at h'; cases h'
section
variable (P : Program) (w : World)
def ObjOk (H : Hp) (h : Heap) (a : Addr) : HO → Prop
  | .lst xs => xs.length ≤ sizeLine ∧ ∃ (its : List Value) (n : Nat), Vals xs its ∧ h.get? a = some { cls := .type "list", data := .seq its.toArray n }
  | .tup xs => xs.length ≤ sizeLine ∧ ∃ its : List Value, Vals xs its ∧ IsTupN h a its.toArray
  | .dK kvs => kvs.length ≤ sizeLine ∧ (a == sysModules) = false ∧ ∃ vs, KV kvs vs ∧ h.DictOf (mixKind P w) a vs
  | .dT kvs => kvs.length ≤ sizeLine ∧ (a == sysModules) = false ∧ ∃ xs : List (List Key × Addr × Value),
      Paired (fun (p : List Key × V) (q : List Key × Addr × Value) => p.1 = q.1 ∧ H q.2.1 = some (.tup (p.1.map kV)) ∧ RelV p.2 q.2.2) kvs xs ∧
      ∃ o es ep, h.get? a = some o ∧ o.ExactDict ∧ o.data = .dict es ep ∧ es.toList = xs.map (entryOfKey (tupleKind (mixKind P w))) ∧ (xs.map (·.1)).Nodup
  | .set S n => h.SetOf (intKind P w) a S n
  | .ins C dx fs => H dx = some (.own a) ∧ fs.length ≤ 1000 ∧ dx ≠ a ∧ h.get? a = some (PySem.W.instObj C dx) ∧
      ∃ mA, h.Ns1 dx mA ∧ (∀ f, RelO (fs.lookup f) (mA f)) ∧ PySem.Within mA (fs.map (·.1))
  | .own _ => ∃ o, h.get? a = some o
  | .xd fs => ∃ mA, h.Ns1 a mA ∧ ∀ f, RelO (fs.lookup f) (mA f)
  | .rng lo hi => ∃ t u v, h.get? a = some { cls := .type "range", data := .fields #[.int lo t, .int hi u, .int 1 v] }
  | .frz o u => h.get? a = some o ∧ ObjOk H h a u
  | .tbl ps => h.get? a = some { cls := .none, data := .fields ps }
  | .lam q => ∃ ps : Array Value, h.get? a = some { cls := .none, data := .fields ps } ∧ TriplesOk ps.toList ∧ ∀ (pos : Pos) (cv : Value), codeAmong pos ps.toList = some cv →
      ∃ (c : Addr) (oc : Obj) (fv : Array Value) (t : Tok), cv = .ref c ∧ H c = some (.frz oc (.own c)) ∧ oc.data = .fields fv ∧ fv[1]? = some (.str q t)
  | .met f x => h.get? a = some (PySem.W.methodObj (.ref f) (.ref x))
  | .ext φ => φ h ∧ (∃ o, h.get? a = some o) ∧ ∀ h1 h2 : Heap, φ h1 → (∀ o, h1.get? a = some o → h2.get? a = some o) → φ h2
def HOk (H : Hp) (h : Heap) : Prop := ∀ a o, H a = some o → ObjOk P w H h a o
end
section
variable {P : Program} {w : World} {H H' : Hp} {h h' : Heap} {a : Addr} {o : HO}
theorem ObjOk.lt (x : ObjOk P w H h a o) : a < h.objs.size := by
  cases o with
  | lst xs => obtain ⟨_, _, _, _, e⟩ := x; exact Heap.lt_size e
  | tup xs => obtain ⟨_, _, _, p⟩ := x; exact p.tup.lt
  | dK kvs => obtain ⟨_, _, _, _, o, _, _, e, _⟩ := x; exact Heap.lt_size e
  | dT kvs => obtain ⟨_, _, _, _, o, _, _, e, _⟩ := x; exact Heap.lt_size e
  | set S n => obtain ⟨o, _, _, _, e, _⟩ := x; exact Heap.lt_size e
  | ins C dx fs => obtain ⟨_, _, _, e, _⟩ := x; exact Heap.lt_size e
  | own y => obtain ⟨_, e⟩ := x; exact Heap.lt_size e
  | xd fs => obtain ⟨_, ⟨_, _, _, e, _⟩, _⟩ := x; exact Heap.lt_size e
  | rng lo hi => obtain ⟨_, _, _, e⟩ := x; exact Heap.lt_size e
  | frz ob u => obtain ⟨e, _⟩ := x; exact Heap.lt_size e
  | tbl ps => exact Heap.lt_size (show h.get? a = some _ from x)
  | lam q => obtain ⟨_, e, _⟩ := x; exact Heap.lt_size e
  | met f y => exact Heap.lt_size (show h.get? a = some _ from x)
  | ext φ => obtain ⟨_, ⟨_, e⟩, _⟩ := x; exact Heap.lt_size e
theorem Paired.mapP {α β : Type} {F G : α → β → Prop} : ∀ {l₁ : List α} {l₂ : List β}, Paired F l₁ l₂ → (∀ a b, F a b → G a b) → Paired G l₁ l₂
  | _, _, .nil, _ => .nil
  | _, _, .cons r t, f => .cons (f _ _ r) (Paired.mapP t f)
theorem ObjOk.stay (x : ObjOk P w H h a o) (k : ∀ b u, (b = a ∨ H b = some (.own a)) → h.get? b = some u → h'.get? b = some u)
    (ho : ∀ b, H b = some (.own a) → H' b = some (.own a)) (ht : ∀ b xs, H b = some (.tup xs) → H' b = some (.tup xs)) (hf : ∀ b ob u, H b = some (.frz ob u) → H' b = some (.frz ob u) := by first | exact fun _ _ _ z => z | (intro c ob u z; rw [upd_ne (ne_of_none z (by assumption))]; exact z)) : ObjOk P w H' h' a o := by
  induction o with
  | lst xs => obtain ⟨z, its, n, r, e⟩ := x; exact ⟨z, its, n, r, k _ _ (.inl rfl) e⟩
  | tup xs => obtain ⟨z, its, r, ob, e, c⟩ := x; exact ⟨z, its, r, ob, k _ _ (.inl rfl) e, c⟩
  | dK kvs => obtain ⟨z, y, vs, r, ob, es, ep, e, c⟩ := x; exact ⟨z, y, vs, r, ob, es, ep, k _ _ (.inl rfl) e, c⟩
  | dT kvs =>
    obtain ⟨z, y, xs, r, ob, es, ep, e, c⟩ := x
    exact ⟨z, y, xs, Paired.mapP r fun p q z => ⟨z.1, ht _ _ z.2.1, z.2.2⟩, ob, es, ep, k _ _ (.inl rfl) e, c⟩
  | set S n => obtain ⟨ob, es, ep, t, e, c⟩ := x; exact ⟨ob, es, ep, t, k _ _ (.inl rfl) e, c⟩
  | ins C dx fs =>
    obtain ⟨d, z, ne, e, mA, ⟨od, es, ep, e2, c⟩, r⟩ := x
    exact ⟨ho _ d, z, ne, k _ _ (.inl rfl) e, mA, ⟨od, es, ep, k _ _ (.inr d) e2, c⟩, r⟩
  | own y => obtain ⟨ob, e⟩ := x; exact ⟨ob, k _ _ (.inl rfl) e⟩
  | xd fs => obtain ⟨mA, ⟨od, es, ep, e, c⟩, r⟩ := x; exact ⟨mA, ⟨od, es, ep, k _ _ (.inl rfl) e, c⟩, r⟩
  | rng lo hi => obtain ⟨t, u, v, e⟩ := x; exact ⟨t, u, v, k _ _ (.inl rfl) e⟩
  | frz ob u ih => obtain ⟨e, q⟩ := x; exact ⟨k _ _ (.inl rfl) e, ih q⟩
  | tbl ps =>
    have e : h.get? a = some { cls := .none, data := .fields ps } := x
    show h'.get? a = some { cls := .none, data := .fields ps }
    exact k a _ (.inl rfl) e
  | met f y =>
    have e : h.get? a = some (PySem.W.methodObj (.ref f) (.ref y)) := x
    show h'.get? a = some (PySem.W.methodObj (.ref f) (.ref y))
    exact k a _ (.inl rfl) e
  | lam q => obtain ⟨ps, e, t, c⟩ := x; exact ⟨ps, k _ _ (.inl rfl) e, t, fun pos cv z => let ⟨c', oc, fv, tk, q1, q2, q3⟩ := c pos cv z; ⟨c', oc, fv, tk, q1, hf _ _ _ q2, q3⟩⟩
  | ext φ => obtain ⟨p, ⟨o, e⟩, st⟩ := x; exact ⟨st _ _ p fun o q => k _ _ (.inl rfl) q, ⟨o, k _ _ (.inl rfl) e⟩, st⟩
theorem HOk.lt (x : HOk P w H h) (e : H a = some o) : a < h.objs.size := (x a o e).lt
theorem HOk.fresh (x : HOk P w H h) (e : h.objs.size ≤ a) : H a = none := by
  cases q : H a with
  | none => rfl
  | some u => exact absurd (Nat.lt_of_lt_of_le (x.lt q) e) (Nat.lt_irrefl _)
theorem HOk.kept (x : HOk P w H h) (k : ∀ b u, h.get? b = some u → h'.get? b = some u) : HOk P w H h' := fun a o e =>
  (x a o e).stay (fun b u _ q => k b u q) (fun _ q => q) (fun _ _ q => q) fun _ _ _ q => q
theorem HOk.laid (x : HOk P w H h) (k : ∀ b u, h.get? b = some u → h'.get? b = some u) (hp : h.objs.size ≤ a) (new : ObjOk P w (upd H a o) h' a o) : HOk P w (upd H a o) h' := fun b u e => by
  have hn := x.fresh hp
  by_cases hb : b = a
  · subst hb; rw [upd_same] at e; cases e; exact new
  · rw [upd_ne hb] at e
    exact (x b u e).stay (fun c v _ q => k c v q) (fun c q => by rw [upd_ne (ne_of_none q hn)]; exact q) (fun c xs q => by rw [upd_ne (ne_of_none q hn)]; exact q) fun c ob xs q => by rw [upd_ne (ne_of_none q hn)]; exact q
end
def Rd (H : Hp) (a : Addr) (u : HO) : Prop := H a = some u ∨ ∃ o, H a = some (.frz o u)
theorem Rd.of {H : Hp} {a : Addr} {u : HO} (h : H a = some u) : Rd H a u := .inl h
theorem Rd.ok {P : Program} {w : World} {H : Hp} {h : Heap} {a : Addr} {u : HO} (r : Rd H a u) (x : HOk P w H h) : ObjOk P w H h a u := by
  rcases r with r | ⟨o, r⟩
  · exact x a u r
  · obtain ⟨_, q⟩ := x a _ r
    exact q
def Mut : Option HO → Prop
  | some (.lst _) => True
  | some (.dK _) => True
  | some (.dT _) => True
  | some (.set _ _) => True
  | some (.ins _ _ _) => True
  | some (.ext _) => True
  | some (.lam _) => True
  | _ => False
section
variable {P : Program} {w : World} {H : Hp} {h h' : Heap} {x e : Addr} {o' : HO}
theorem HOk.write (ok : HOk P w H h) (mu : Mut (H x)) (he : e = x ∨ H e = some (.own x)) (k : ∀ b u, b ≠ e → h.get? b = some u → h'.get? b = some u) (heo : ∃ u, h'.get? e = some u)
    (new : ObjOk P w (upd H x o') h' x o') : HOk P w (upd H x o') h' := fun b u q => by
  have nown : ∀ c y, H c = some (.own y) → c ≠ x := fun c y r z => by subst z; rw [r] at mu; exact mu
  have ntup : ∀ c xs, H c = some (.tup xs) → c ≠ x := fun c xs r z => by subst z; rw [r] at mu; exact mu
  have nfrz : ∀ c ob xs, H c = some (.frz ob xs) → c ≠ x := fun c ob xs r z => by subst z; rw [r] at mu; exact mu
  by_cases hb : b = x
  · subst hb; rw [upd_same] at q; cases q; exact new
  · rw [upd_ne hb] at q
    by_cases hbe : b = e
    · have q' : H b = some (.own x) := by
        rcases he with z | z
        · exact absurd (hbe.trans z) hb
        · rw [hbe]; exact z
      rw [q] at q'; cases q'
      obtain ⟨v, hv⟩ := heo
      exact ⟨v, by rw [hbe]; exact hv⟩
    · refine (ok b u q).stay (fun c v hc r => k c v ?_ r) (fun c r => by rw [upd_ne (nown c b r)]; exact r) (fun c xs r => by rw [upd_ne (ntup c xs r)]; exact r) fun c ob xs r => by rw [upd_ne (nfrz c ob xs r)]; exact r
      rcases hc with rfl | hc
      · exact hbe
      · rintro rfl
        rcases he with z | z
        · exact nown c b hc z
        · rw [hc] at z; cases z; exact hb rfl
end
structure Un (fs ex : List Addr) (H H' : Hp) (h h' : Heap) : Prop where
  keep : ∀ b o, h.get? b = some o → H b = none → b ∉ fs → b ∉ ex → h'.get? b = some o
  slot : ∀ b o, h.get? b = some o → H b = none → b ∈ fs → b ∉ ex → ∃ sl, h'.get? b = some { o with slots := sl }
  free : ∀ b o, h.get? b = some o → H b = none → b ∉ ex → H' b = none
  there : ∀ b o, h.get? b = some o → b ∉ ex → ∃ o', h'.get? b = some o'
  tups : ∀ b xs, H b = some (.tup xs) → H' b = some (.tup xs)
  frzs : ∀ b o u, H b = some (.frz o u) → H' b = some (.frz o u)
  tbls : ∀ b ps, H b = some (.tbl ps) → ∃ more, H' b = some (.tbl (ps ++ more))
section
variable {fs fs' ex ex' : List Addr} {H H1 H2 : Hp} {h h1 h2 h' : Heap} {a x e : Addr} {o : HO}
theorem Un.any (u : Un fs ex H H1 h h1) {b : Addr} {ob : Obj} (q : h.get? b = some ob) (n : H b = none) (hx : b ∉ ex) : ∃ sl, h1.get? b = some { ob with slots := sl } := by
  by_cases hb : b ∈ fs
  · exact u.slot b ob q n hb hx
  · exact ⟨ob.slots, u.keep b ob q n hb hx⟩
theorem Un.trans (a : Un fs ex H H1 h h1) (b : Un fs ex H1 H2 h1 h2) : Un fs ex H H2 h h2 where
  keep := fun c ob q n hc hx => b.keep c ob (a.keep c ob q n hc hx) (a.free c ob q n hx) hc hx
  slot := fun c ob q n hc hx => by
    obtain ⟨sl, e1⟩ := a.slot c ob q n hc hx
    obtain ⟨sl', e2⟩ := b.slot c _ e1 (a.free c ob q n hx) hc hx
    exact ⟨sl', e2⟩
  free := fun c ob q n hx => by
    obtain ⟨o', e1⟩ := a.there c ob q hx
    exact b.free c o' e1 (a.free c ob q n hx) hx
  there := fun c ob q hx => by
    obtain ⟨o', e1⟩ := a.there c ob q hx
    exact b.there c o' e1 hx
  tups := fun c xs q => b.tups c xs (a.tups c xs q)
  frzs := fun c ob xs q => b.frzs c ob xs (a.frzs c ob xs q)
  tbls := fun c ps q => by
    obtain ⟨m1, e1⟩ := a.tbls c ps q
    obtain ⟨m2, e2⟩ := b.tbls c _ e1
    exact ⟨m1 ++ m2, by rw [e2, Array.append_assoc]⟩
theorem Un.kept (k : ∀ b u, h.get? b = some u → h'.get? b = some u) : Un fs ex H H h h' :=
  ⟨fun b ob q _ _ _ => k b ob q, fun b ob q _ _ _ => ⟨ob.slots, k b ob q⟩, fun _ _ _ n _ => n, fun b ob q _ => ⟨ob, k b ob q⟩, fun _ _ q => q, fun _ _ _ q => q, fun _ ps q => ⟨#[], by rw [q]; simp⟩⟩
theorem Un.refl : Un fs ex H H h h := Un.kept fun _ _ q => q
theorem Un.laid (k : ∀ b u, h.get? b = some u → h'.get? b = some u) (hp : h.objs.size ≤ a) (hn : H a = none) : Un fs ex H (upd H a o) h h' where
  keep := fun b u q _ _ _ => k b u q
  slot := fun b u q _ _ _ => ⟨u.slots, k b u q⟩
  free := fun b u q n _ => by rw [upd_ne (Nat.ne_of_lt (Nat.lt_of_lt_of_le (Heap.lt_size q) hp))]; exact n
  there := fun b u q _ => ⟨u, k b u q⟩
  tups := fun b xs q => by rw [upd_ne (ne_of_none q hn)]; exact q
  frzs := fun b u xs q => by rw [upd_ne (ne_of_none q hn)]; exact q
  tbls := fun b ps q => ⟨#[], by rw [upd_ne (ne_of_none q hn), q]; simp⟩
theorem Un.write (mu : Mut (H x)) (he : e = x ∨ H e = some (.own x)) (k : ∀ b u, b ≠ e → h.get? b = some u → h'.get? b = some u) (heo : ∃ u, h'.get? e = some u) : Un fs ex H (upd H x o) h h' := by
  have hx : ∀ b, H b = none → b ≠ x := fun b n z => by subst z; rw [n] at mu; exact mu
  have hb : ∀ b, H b = none → b ≠ e := fun b n z => by
    subst z
    rcases he with r | r
    · exact hx b n r
    · rw [n] at r; cases r
  have hm : ∀ b u, H b = some u → ¬ Mut (some u) → b ≠ x := fun b u q nm z => by subst z; rw [q] at mu; exact nm mu
  refine ⟨fun b u q n _ _ => k b u (hb b n) q, fun b u q n _ _ => ⟨u.slots, k b u (hb b n) q⟩, fun b u q n _ => by rw [upd_ne (hx b n)]; exact n, fun b u q _ => ?_,
    fun b xs q => by rw [upd_ne (hm b _ q fun z => z)]; exact q, fun b u xs q => by rw [upd_ne (hm b _ q fun z => z)]; exact q, fun b ps q => ⟨#[], by rw [upd_ne (hm b _ q fun z => z), q]; simp⟩⟩
  by_cases hbe : b = e
  · subst hbe; exact heo
  · exact ⟨u, k b u hbe q⟩
theorem Un.mono (u : Un fs ex H H1 h h1) (hs : ∀ b ∈ fs, b ∈ fs') (hx : ∀ b ∈ ex, b ∈ ex') : Un fs' ex' H H1 h h1 :=
  ⟨fun b ob q n hb he => u.keep b ob q n (fun z => hb (hs b z)) fun z => he (hx b z), fun _ _ q n _ he => u.any q n fun z => he (hx _ z), fun b ob q n he => u.free b ob q n fun z => he (hx b z), fun b ob q he => u.there b ob q fun z => he (hx b z), u.tups, u.frzs, u.tbls⟩
end
def trk (h : Heap) (H : Hp) : List Addr := (List.range h.objs.size).filter fun a => (H a).isSome
def hidT (h : Heap) (H : Hp) : Heap := PySem.W.hideAll h (trk h H)
theorem hidT_size (h : Heap) (H : Hp) : (hidT h H).objs.size = h.objs.size := PySem.W.hideAll_size _ _
theorem hidT_get {h : Heap} {H : Hp} {b : Addr} {o : Obj} (e : h.get? b = some o) (n : H b = none) : (hidT h H).get? b = some o :=
  PySem.W.hideAll_get _ e fun hm => by
    have q : (H b).isSome = true := (List.mem_filter.mp hm).2
    rw [n] at q; simp at q
theorem of_hidT {h : Heap} {H : Hp} {b : Addr} {o : Obj} (e : (hidT h H).get? b = some o) : h.get? b = some o ∧ H b = none := by
  have e' : h.get? b = some o := PySem.W.of_hideAll (trk h H) e
  refine ⟨e', ?_⟩
  cases q : H b with
  | none => rfl
  | some x =>
    have hm : b ∈ trk h H := List.mem_filter.mpr ⟨List.mem_range.mpr (Heap.lt_size e'), by simp [q]⟩
    have z : (hidT h H).get? b = none := PySem.W.hideAll_none (trk h H) hm
    rw [z] at e; cases e
def allNews (g h : Heap) (L : Addr) : List (Addr × Obj) := (List.range h.objs.size).filterMap fun a => if a = L ∨ (g.get? a).isSome = true then none else (h.get? a).map fun o => (a, o)
def rest (g h : Heap) (L d : Addr) : List (Addr × Obj) := (allNews g h L).filter fun p => decide (p.1 ≠ d)
end L2
namespace L2
open PySem PySem.Spec PyProof.Rows
structure Mod (K : PySem.W.Frag) (mg : Str → Option Value) (base : Heap) : Prop where
  kin : K.In base
  glob : base.Ns mainGlobals mg
  blt : ∃ mb, base.Ns builtinsNs mb ∧ ∀ x : Str, x ≠ "__name__" → mb x = bootBuiltins x
  nolimit : base.NoLimit
/-- the context: a def's body (or a comprehension's block) running. base: fixed through the whole law; s₀, H₀: the entry; outer: the frames whose slots others may change (a def's callers); stack: all frames that run;
   ex: iterators that were made ahead of the entry and are walked here (a comprehension's); fn: the names whose cells were made at the entry (a def: all; a comprehension's block: its own); calm: not within an except suite; pn: pins that every state bears; xe: what is wanted of an exception that leaves the code -/
structure Cx where
  prog : Program
  w : World
  K : PySem.W.Frag
  mg : Str → Option Value
  base : Heap
  A : Around
  N : List Str
  s₀ : Shared
  H₀ : Hp
  env : Env
  outer : List Env
  stack : List Env
  ex : List Addr
  fn : Str → Bool
  calm : Bool
  pn : List (Addr × Obj)
  xe : Value → Shared → Prop
def frs (l : List Env) : List Addr := l.filterMap (·.frame)
abbrev Cx.fs (X : Cx) : List Addr := frs X.outer
def Vis (sc : Scope) (x : Str) : Prop := sc.names.lookup x = some .local ∨ sc.names.lookup x = some .cell ∨ sc.names.lookup x = some .free
def Loc (sc : Scope) (x : Str) : Prop := sc.names.lookup x = some .local ∨ sc.names.lookup x = some .cell
def Look (env : Env) (h : Heap) (m : Str → Option Value) (x : Str) (u : Value) : Prop :=
  (env.kindOf x = some .local ∧ m x = some u) ∨ ((env.kindOf x = some .cell ∨ env.kindOf x = some .free) ∧ ∃ c, env.cells.lookup x = some c ∧ h.IsCell c (some u))
structure Cx.Ok (X : Cx) : Prop where
  mod : Mod X.K X.mg X.base
  kind : X.env.scope.kind = .function
  glob : X.env.globals = mainGlobals
  blt : X.env.builtins = builtinsNs
  above : X.s₀.heap.objs.size ≤ X.env.locals
  inj : ∀ x y c, X.env.cells.lookup x = some c → X.env.cells.lookup y = some c → x = y
  has : ∀ x, (X.env.kindOf x = some .cell ∨ X.env.kindOf x = some .free) → ∃ c, X.env.cells.lookup x = some c
  cab : ∀ x c, X.fn x = true → X.env.cells.lookup x = some c → X.s₀.heap.objs.size ≤ c
  hd : X.calm = true → X.A.handled = none
  frames : X.A.frames = some X.stack
  stk : X.stack = X.outer ∨ (X.stack = X.env :: X.outer ∧ X.env.frame = some X.env.locals)
  exf : ∀ b ∈ X.ex, b ≠ X.env.locals ∧ ∀ x c, X.env.cells.lookup x = some c → c ≠ b
  bs : ∀ b o, X.base.get? b = some o → X.s₀.heap.get? b = some o ∧ X.H₀ b = none
  bsz : X.base.objs.size ≤ X.s₀.heap.objs.size
  noex : ∀ b o, X.base.get? b = some o → b ∉ X.ex
  exfs : ∀ b ∈ X.ex, b ∉ X.fs
  funs : X.s₀.heap.FunFrames X.base X.outer
  frf : ∀ b ∈ X.fs, X.H₀ b = none
structure Inv (X : Cx) (pins : List (Addr × Obj)) (σ : List (Option V)) (H : Hp) (s : Shared) : Prop where
  ok : X.Ok
  os : s.os = X.s₀.os
  bare : AllBare s.gens
  base : Un X.fs X.ex X.H₀ H X.s₀.heap s.heap
  loc : ∃ m, s.heap.Ns X.env.locals m ∧ ∀ (i : Nat) (x : Str) (v : V), X.N[i]? = some x → σ[i]? = some (some v) → Vis X.env.scope x → ∃ u, RelV v u ∧ Look X.env s.heap m x u
  cell : ∀ x c, X.env.cells.lookup x = some c → ∃ v, s.heap.IsCell c v
  free : H X.env.locals = none
  freeC : ∀ x c, X.env.cells.lookup x = some c → H c = none
  pin : ∀ p ∈ X.pn ++ pins, s.heap.get? p.1 = some p.2 ∧ H p.1 = none ∧ p.1 ≠ X.env.locals ∧ p.1 ∉ X.fs ∧ ∀ v, p.2.data ≠ .cell v
  hok : HOk X.prog X.w H s.heap
  len : σ.length = X.N.length
section
variable {X : Cx} {pins : List (Addr × Obj)} {σ : List (Option V)} {H H' : Hp} {s : Shared} {h' : Heap}
theorem Cx.Ok.nofr (ok : X.Ok) {b : Addr} {o : Obj} (e : X.base.get? b = some o) : b ∉ X.fs := fun hb => by
  have := (ok.funs.mem hb).1
  rw [e] at this; cases this
theorem Inv.bs (I : Inv X pins σ H s) : ∀ b o, X.base.get? b = some o → s.heap.get? b = some o ∧ H b = none := fun b o e =>
  ⟨I.base.keep b o (I.ok.bs b o e).1 (I.ok.bs b o e).2 (I.ok.nofr e) (I.ok.noex b o e), I.base.free b o (I.ok.bs b o e).1 (I.ok.bs b o e).2 (I.ok.noex b o e)⟩
theorem Inv.bk (I : Inv X pins σ H s) : ∀ b o, X.base.get? b = some o → s.heap.get? b = some o := fun b o e => (I.bs b o e).1
theorem Inv.mod (I : Inv X pins σ H s) : Mod X.K X.mg X.base := I.ok.mod
theorem Inv.kIn (I : Inv X pins σ H s) : X.K.In s.heap := I.ok.mod.kin.keeps I.bk
theorem Inv.nolimit (I : Inv X pins σ H s) : s.heap.NoLimit := I.ok.mod.nolimit.keeps I.bk
theorem Inv.fr (I : Inv X pins σ H s) : ∃ m, Fr X.base X.env.locals s.heap m :=
  let ⟨m, hn, _⟩ := I.loc
  ⟨m, hn, I.bk, Nat.le_trans I.ok.bsz I.ok.above⟩
theorem Inv.lt (I : Inv X pins σ H s) : X.env.locals < s.heap.objs.size := let ⟨_, hn, _⟩ := I.loc; hn.lt
theorem Inv.sz (I : Inv X pins σ H s) : X.s₀.heap.objs.size ≤ s.heap.objs.size := Nat.le_trans I.ok.above (Nat.le_of_lt I.lt)
theorem Inv.nofs (I : Inv X pins σ H s) {a : Addr} (h : s.heap.objs.size ≤ a) : a ∉ X.fs := fun hb => by
  obtain ⟨_, o, ho, _⟩ := I.ok.funs.mem hb
  exact absurd (Nat.lt_of_lt_of_le (Heap.lt_size ho) (Nat.le_trans I.sz h)) (Nat.lt_irrefl _)
theorem Inv.cne (I : Inv X pins σ H s) : ∀ x c, X.env.cells.lookup x = some c → c ≠ X.env.locals := fun x c e z => by
  obtain ⟨v, o, ho, hd⟩ := I.cell x c e
  obtain ⟨m, ⟨o', es, ep, ho', hd', _⟩, _⟩ := I.loc
  rw [z, ho'] at ho; cases ho; rw [hd'] at hd; cases hd
theorem Inv.funs (I : Inv X pins σ H s) : s.heap.FunFrames X.base X.outer := by
  have all : ∀ (l : List Env), (∀ b ∈ frs l, b ∈ X.fs) → X.s₀.heap.FunFrames X.base l → s.heap.FunFrames X.base l := by
    intro l
    induction l with
    | nil => intro _ _; trivial
    | cons env r ih =>
      intro hs hl
      obtain ⟨hk, ⟨L, o, hf, hn, ho, hd⟩, hr⟩ := hl
      have hL : L ∈ X.fs := hs L (by unfold frs; rw [List.filterMap_cons, hf]; exact List.mem_cons_self)
      obtain ⟨sl, e⟩ := I.base.slot L o ho (I.ok.frf L hL) hL fun z => I.ok.exfs L z hL
      exact ⟨hk, ⟨L, _, hf, hn, e, hd⟩, ih (fun b hb => hs b (by unfold frs; rw [List.filterMap_cons, hf]; exact List.mem_cons_of_mem _ hb)) hr⟩
  exact all X.outer (fun _ hb => hb) I.ok.funs
theorem Inv.stack (I : Inv X pins σ H s) : s.heap.FunFrames X.base X.stack := by
  rcases I.ok.stk with e | ⟨e, hf⟩
  · rw [e]; exact I.funs
  · rw [e]
    obtain ⟨m, hn, _⟩ := I.loc
    refine .cons (by rw [I.ok.kind]; decide) hf hn ?_ I.funs
    exact Heap.get?_none_of_le (Nat.le_trans I.ok.bsz I.ok.above)
theorem Inv.stkSub (I : Inv X pins σ H s) : ∀ b ∈ frs X.stack, b ∈ X.env.locals :: X.fs := fun b hb => by
  rcases I.ok.stk with e | ⟨e, hf⟩
  · rw [e] at hb; exact List.mem_cons_of_mem _ hb
  · rw [e] at hb
    unfold frs at hb
    rw [List.filterMap_cons, hf] at hb
    exact hb
theorem Inv.stkFree (I : Inv X pins σ H s) : ∀ b ∈ frs X.stack, H b = none := fun b hb => by
  rcases List.mem_cons.mp (I.stkSub b hb) with e | hb
  · rw [e]; exact I.free
  · obtain ⟨_, o, ho, _⟩ := I.ok.funs.mem hb
    exact I.base.free b o ho (I.ok.frf b hb) fun z => I.ok.exfs b z hb
theorem Inv.step {g' : Array GenState} {t' : Nat} {d' : Drawn} {ch : List Addr} (I : Inv X pins σ H s)
    (hch : ∀ b ∈ ch, (b ∈ X.ex ∨ X.s₀.heap.objs.size ≤ b) ∧ b ≠ X.env.locals ∧ (∀ x c, X.env.cells.lookup x = some c → c ≠ b) ∧ ∀ p ∈ X.pn ++ pins, p.1 ≠ b)
    (keep : ∀ b o, b ≠ X.env.locals → b ∉ X.fs → b ∉ ch → s.heap.get? b = some o → H b = none → h'.get? b = some o)
    (slot : ∀ b o, b ≠ X.env.locals → b ∈ X.fs → b ∉ ch → s.heap.get? b = some o → H b = none → ∃ sl, h'.get? b = some { o with slots := sl }) (free : ∀ b o, b ∉ ch → s.heap.get? b = some o → H b = none → H' b = none)
    (there : ∀ b o, b ∉ ch → s.heap.get? b = some o → ∃ o', h'.get? b = some o')
    (tups : ∀ b xs, H b = some (.tup xs) → H' b = some (.tup xs)) (frzs : ∀ b o u, H b = some (.frz o u) → H' b = some (.frz o u)) (tbls : ∀ b ps, H b = some (.tbl ps) → ∃ more, H' b = some (.tbl (ps ++ more)))
    (ns : ∀ m, s.heap.Ns X.env.locals m → h'.Ns X.env.locals m) (hok : HOk X.prog X.w H' h') (hg : AllBare g') :
    Inv X pins σ H' { s with heap := h', gens := g', drawn := d', toks := t' } := by
  have neL : ∀ b o, X.s₀.heap.get? b = some o → b ≠ X.env.locals := fun b o e => Nat.ne_of_lt (Nat.lt_of_lt_of_le (Heap.lt_size e) I.ok.above)
  have neC : ∀ b o, X.s₀.heap.get? b = some o → b ∉ X.ex → b ∉ ch := fun b o e hx hb => by
    rcases (hch b hb).1 with z | z
    · exact hx z
    · exact absurd (Nat.lt_of_lt_of_le (Heap.lt_size e) z) (Nat.lt_irrefl _)
  have cellK : ∀ x c, X.env.cells.lookup x = some c → ∀ v, s.heap.IsCell c v → h'.IsCell c v := fun x c e v ⟨o, ho, hd⟩ => by
    have nch : c ∉ ch := fun z => (hch c z).2.2.1 x c e rfl
    by_cases hc : c ∈ X.fs
    · obtain ⟨sl, q⟩ := slot c o (I.cne x c e) hc nch ho (I.freeC x c e)
      exact ⟨_, q, hd⟩
    · exact ⟨o, keep c o (I.cne x c e) hc nch ho (I.freeC x c e), hd⟩
  refine ⟨I.ok, I.os, hg, ⟨fun b o e n hb hx => ?_, fun b o e n hb hx => ?_, fun b o e n hx => ?_, fun b o e hx => ?_, fun b xs e => tups b xs (I.base.tups b xs e), fun b o xs e => frzs b o xs (I.base.frzs b o xs e), fun b ps e => ?_⟩, ?_, fun x c e => ?_, ?_, fun x c e => ?_, fun p hp => ?_, hok, I.len⟩
  · exact keep b o (neL b o e) hb (neC b o e hx) (I.base.keep b o e n hb hx) (I.base.free b o e n hx)
  · obtain ⟨sl, e1⟩ := I.base.slot b o e n hb hx
    obtain ⟨sl', e2⟩ := slot b _ (neL b o e) hb (neC b o e hx) e1 (I.base.free b o e n hx)
    exact ⟨sl', e2⟩
  · obtain ⟨o', e1⟩ := I.base.there b o e hx
    exact free b o' (neC b o e hx) e1 (I.base.free b o e n hx)
  · obtain ⟨o', e1⟩ := I.base.there b o e hx
    exact there b o' (neC b o e hx) e1
  · obtain ⟨m1, e1⟩ := I.base.tbls b ps e
    obtain ⟨m2, e2⟩ := tbls b _ e1
    exact ⟨m1 ++ m2, by rw [e2, Array.append_assoc]⟩
  · obtain ⟨m, hn, hl⟩ := I.loc
    refine ⟨m, ns m hn, fun i x v e1 e2 e3 => ?_⟩
    obtain ⟨u, r, l⟩ := hl i x v e1 e2 e3
    refine ⟨u, r, ?_⟩
    rcases l with l | ⟨k, c, e, z⟩
    · exact .inl l
    · exact .inr ⟨k, c, e, cellK x c e _ z⟩
  · obtain ⟨v, z⟩ := I.cell x c e
    exact ⟨v, cellK x c e v z⟩
  · obtain ⟨m, ⟨o, _, _, ho, _⟩, _⟩ := I.loc
    exact free _ o (fun z => (hch _ z).2.1 rfl) ho I.free
  · obtain ⟨v, o, ho, hd⟩ := I.cell x c e
    exact free c o (fun z => (hch c z).2.2.1 x c e rfl) ho (I.freeC x c e)
  · obtain ⟨e, n, ne, nf, d⟩ := I.pin p hp
    have nch : p.1 ∉ ch := fun z => (hch p.1 z).2.2.2 p hp rfl
    exact ⟨keep p.1 p.2 ne nf nch e n, free p.1 p.2 nch e n, ne, nf, d⟩
theorem Inv.un {t' : Nat} (I : Inv X pins σ H s) (u : Un X.fs [] H H' s.heap h') (hok : HOk X.prog X.w H' h') : Inv X pins σ H' { s with heap := h', toks := t' } := by
  obtain ⟨m, ⟨o, es, ep, ho, r⟩, _⟩ := id I.loc
  obtain ⟨sl, hL⟩ := u.any ho I.free (by simp)
  exact I.step (g' := s.gens) (d' := s.drawn) (ch := []) (fun _ z => nomatch z) (fun b o _ hb _ e n => u.keep b o e n hb (by simp)) (fun b o _ hb _ e n => u.slot b o e n hb (by simp)) (fun b o _ e n => u.free b o e n (by simp)) (fun b o _ e => u.there b o e (by simp)) u.tups u.frzs u.tbls (fun m' hm => by
    obtain ⟨o', es', ep', ho', r'⟩ := hm
    rw [ho] at ho'; cases ho'
    exact ⟨_, es', ep', hL, r'⟩) hok I.bare
theorem Inv.call {g' : Array GenState} {t' : Nat} {d' : Drawn} {ch : List Addr} (I : Inv X pins σ H s) (u : Un (frs X.stack) ch H H' s.heap h') (hok : HOk X.prog X.w H' h') (hg : AllBare g')
    (hch : ∀ b ∈ ch, (b ∈ X.ex ∨ X.s₀.heap.objs.size ≤ b) ∧ b ≠ X.env.locals ∧ (∀ x c, X.env.cells.lookup x = some c → c ≠ b) ∧ ∀ p ∈ X.pn ++ pins, p.1 ≠ b) :
    Inv X pins σ H' { s with heap := h', gens := g', drawn := d', toks := t' } := by
  obtain ⟨m, ⟨o, es, ep, ho, r⟩, _⟩ := id I.loc
  obtain ⟨sl, hL⟩ := u.any ho I.free fun z => (hch _ z).2.1 rfl
  exact I.step (ch := ch) hch (fun b o hL hb hc e n => u.keep b o e n (fun z => (List.mem_cons.mp (I.stkSub b z)).elim hL hb) hc) (fun b o _ _ hc e n => u.any e n hc) (fun b o hc e n => u.free b o e n hc) (fun b o hc e => u.there b o e hc) u.tups u.frzs u.tbls (fun m' hm => by
    obtain ⟨o', es', ep', ho', r'⟩ := hm
    rw [ho] at ho'; cases ho'
    exact ⟨_, es', ep', hL, r'⟩) hok hg
theorem Inv.turned {t' : Nat} {it : Addr} (I : Inv X pins σ H s) (k : ∀ b o, b ≠ it → s.heap.get? b = some o → h'.get? b = some o) (hn : H it = none) (hL : it ≠ X.env.locals)
    (h1 : it ∈ X.ex ∨ X.s₀.heap.objs.size ≤ it) (h2 : ∀ x c, X.env.cells.lookup x = some c → c ≠ it) (h3 : ∀ p ∈ X.pn ++ pins, p.1 ≠ it) : Inv X pins σ H { s with heap := h', toks := t' } := by
  have nit : ∀ b u, H b = some u → b ≠ it := fun b u e z => by rw [z, hn] at e; cases e
  refine I.step (g' := s.gens) (d' := s.drawn) (ch := [it]) (fun b hb => ?_) (fun b o _ _ hc e _ => k b o (fun z => hc (by simp [z])) e) (fun b o _ _ hc e _ => ⟨o.slots, k b o (fun z => hc (by simp [z])) e⟩) (fun _ _ _ _ n => n)
    (fun b o hc e => ⟨o, k b o (fun z => hc (by simp [z])) e⟩) (fun _ _ e => e) (fun _ _ _ e => e) (fun b ps e => ⟨#[], by rw [e]; simp⟩) (fun m hm => ?_) (fun b u e => ?_) I.bare
  · have e : b = it := by simpa using hb
    subst e
    exact ⟨h1, hL, h2, h3⟩
  · obtain ⟨o, es, ep, ho, r⟩ := hm
    exact ⟨o, es, ep, k _ o (Ne.symm hL) ho, r⟩
  · refine (I.hok b u e).stay (fun c v hc q => k c v ?_ q) (fun _ q => q) (fun _ _ q => q) fun _ _ _ q => q
    rcases hc with z | z
    · rw [z]; exact nit b u e
    · exact nit c _ z
theorem Inv.tok (I : Inv X pins σ H s) (t : Nat) : Inv X pins σ H { s with toks := t } := I.un (h' := s.heap) (t' := t) Un.refl I.hok
theorem Inv.kept {t' : Nat} (I : Inv X pins σ H s) (k : ∀ b u, s.heap.get? b = some u → h'.get? b = some u) : Inv X pins σ H { s with heap := h', toks := t' } := I.un (Un.kept k) (I.hok.kept k)
theorem Inv.laid {a : Addr} {o : HO} {t' : Nat} (I : Inv X pins σ H s) (k : ∀ b u, s.heap.get? b = some u → h'.get? b = some u) (hp : s.heap.objs.size ≤ a) (new : ObjOk X.prog X.w (upd H a o) h' a o) :
    Inv X pins σ (upd H a o) { s with heap := h', toks := t' } := I.un (Un.laid k hp (I.hok.fresh hp)) (I.hok.laid k hp new)
theorem Inv.write {x e : Addr} {o : HO} {t' : Nat} (I : Inv X pins σ H s) (mu : Mut (H x)) (he : e = x ∨ H e = some (.own x)) (k : ∀ b u, b ≠ e → s.heap.get? b = some u → h'.get? b = some u) (heo : ∃ u, h'.get? e = some u)
    (new : ObjOk X.prog X.w (upd H x o) h' x o) : Inv X pins σ (upd H x o) { s with heap := h', toks := t' } := I.un (Un.write mu he k heo) (I.hok.write mu he k heo new)
theorem Inv.pins_of {pins' : List (Addr × Obj)} (I : Inv X pins σ H s) (h : ∀ p ∈ pins', s.heap.get? p.1 = some p.2 ∧ H p.1 = none ∧ p.1 ≠ X.env.locals ∧ p.1 ∉ X.fs ∧ ∀ v, p.2.data ≠ .cell v) : Inv X pins' σ H s :=
  ⟨I.ok, I.os, I.bare, I.base, I.loc, I.cell, I.free, I.freeC, fun p hp => (List.mem_append.mp hp).elim (fun z => I.pin p (List.mem_append_left _ z)) (h p), I.hok, I.len⟩
theorem nodup_ix {N : List Str} (hN : N.Nodup) {i j : Nat} {x : Str} (a : N[i]? = some x) (b : N[j]? = some x) : i = j := by
  obtain ⟨h1, e1⟩ := List.getElem?_eq_some_iff.mp a
  obtain ⟨h2, e2⟩ := List.getElem?_eq_some_iff.mp b
  exact (List.getElem_inj hN).mp (e1.trans e2.symm)
theorem store_ok2 {M : Model} {A : Around} {E : Value → Shared → Prop} {i : Nat} {x : Str} {v : V} {u : Value} {Q : Unit → Shared → Prop} (I : Inv X pins σ H s) (hN : X.N.Nodup) (hi : X.N[i]? = some x) (hx : Loc X.env.scope x) (r : RelV v u)
    (h : ∀ s', Inv X pins (σ.set i (some v)) H s' → (∃ a, Heap.SameBut a s.heap s'.heap ∧ (a = X.env.locals ∨ X.env.cells.lookup x = some a)) → Q () s') (hf : X.fn x = true ∨ X.env.scope.names.lookup x = some .local := by first | exact .inl rfl | exact .inr rfl | assumption) : wpAny M A (storeName X.env x u) Q E s := by
  obtain ⟨m, hn, hl⟩ := id I.loc
  have hcls : (X.env.scope.kind == .class || (X.env.scope.kind == .module && X.env.locals != X.env.globals)) = false := by rw [I.ok.kind]; rfl
  have hiσ : i < σ.length := by rw [I.len]; exact (List.getElem?_eq_some_iff.mp hi).1
  have cne := I.cne
  have tracked : ∀ {a : Addr} {h' : Heap}, (∃ o, s.heap.get? a = some o ∧ H a = none) → Heap.SameBut a s.heap h' → HOk X.prog X.w H h' := fun {a h'} ha hs b ob e => by
    obtain ⟨_, _, hfree⟩ := ha
    refine (I.hok b ob e).stay (fun c w' hc q => (hs.2 c ?_).trans q) (fun _ q => q) (fun _ _ q => q) fun _ _ _ q => q
    rintro rfl
    rcases hc with rfl | hc
    · rw [hfree] at e; cases e
    · rw [hfree] at hc; cases hc
  rcases hx with hk | hk
  · refine wpAny_storeName_local hk hn (fun h' hn' hs => ?_) hcls
    obtain ⟨oL, _, _, hoL, _⟩ := id hn
    refine h _ ⟨I.ok, I.os, I.bare, ⟨fun b o e n hb hx => ?_, fun b o e n hb hx => ?_, I.base.free, fun b o e hx => ?_, I.base.tups, I.base.frzs, I.base.tbls⟩, ⟨_, hn', fun j y v' e1 e2 e3 => ?_⟩, fun y c e => ?_, I.free, I.freeC, fun p hp => ?_, tracked ⟨oL, hoL, I.free⟩ hs, by simpa using I.len⟩ ⟨_, hs, .inl rfl⟩
    · exact (hs.2 b (Nat.ne_of_lt (Nat.lt_of_lt_of_le (Heap.lt_size e) I.ok.above))).trans (I.base.keep b o e n hb hx)
    · obtain ⟨sl, e1⟩ := I.base.slot b o e n hb hx
      exact ⟨sl, (hs.2 b (Nat.ne_of_lt (Nat.lt_of_lt_of_le (Heap.lt_size e) I.ok.above))).trans e1⟩
    · obtain ⟨o', e1⟩ := I.base.there b o e hx
      exact ⟨o', (hs.2 b (Nat.ne_of_lt (Nat.lt_of_lt_of_le (Heap.lt_size e) I.ok.above))).trans e1⟩
    · by_cases hj : j = i
      · subst hj
        rw [hi] at e1; cases e1
        rw [List.getElem?_set_self hiσ] at e2
        cases e2
        exact ⟨u, r, .inl ⟨hk, by simp⟩⟩
      · rw [List.getElem?_set_ne (Ne.symm hj)] at e2
        obtain ⟨u', r', q⟩ := hl j y v' e1 e2 e3
        refine ⟨u', r', ?_⟩
        rcases q with ⟨k, e⟩ | ⟨k, c, e, z⟩
        · refine .inl ⟨k, ?_⟩
          have : y ≠ x := fun e => hj (nodup_ix hN e1 (e ▸ hi))
          simp [this, e]
        · exact .inr ⟨k, c, e, z.sameBut hs (cne y c e)⟩
    · obtain ⟨w', z⟩ := I.cell y c e
      exact ⟨w', z.sameBut hs (cne y c e)⟩
    · obtain ⟨e, n, ne, nf, d⟩ := I.pin p hp
      exact ⟨(hs.2 p.1 ne).trans e, n, ne, nf, d⟩
  · have hfn : X.fn x = true := by
      rcases hf with z | z
      · exact z
      · rw [z] at hk; cases hk
    obtain ⟨c, hc⟩ := I.ok.has x (.inl hk)
    obtain ⟨w', z⟩ := I.cell x c hc
    refine wpAny_storeName_cell I.ok.kind hk hc z (fun h' hc' hs => ?_)
    obtain ⟨oc, hoc, hocd⟩ := id z
    refine h { s with heap := h' } ⟨I.ok, I.os, I.bare, ⟨fun b o e n hb hx => ?_, fun b o e n hb hx => ?_, I.base.free, fun b o e hx => ?_, I.base.tups, I.base.frzs, I.base.tbls⟩, ⟨m, hn.sameBut hs (Ne.symm (cne x c hc)), fun j y v' e1 e2 e3 => ?_⟩, fun y c' e => ?_, I.free, I.freeC, fun p hp => ?_, tracked ⟨oc, hoc, I.freeC x c hc⟩ hs, by simpa using I.len⟩ ⟨c, hs, .inr hc⟩
    · exact (hs.2 b (Nat.ne_of_lt (Nat.lt_of_lt_of_le (Heap.lt_size e) (I.ok.cab x c hfn hc)))).trans (I.base.keep b o e n hb hx)
    · obtain ⟨sl, e1⟩ := I.base.slot b o e n hb hx
      exact ⟨sl, (hs.2 b (Nat.ne_of_lt (Nat.lt_of_lt_of_le (Heap.lt_size e) (I.ok.cab x c hfn hc)))).trans e1⟩
    · obtain ⟨o', e1⟩ := I.base.there b o e hx
      exact ⟨o', (hs.2 b (Nat.ne_of_lt (Nat.lt_of_lt_of_le (Heap.lt_size e) (I.ok.cab x c hfn hc)))).trans e1⟩
    · by_cases hj : j = i
      · subst hj
        rw [hi] at e1; cases e1
        rw [List.getElem?_set_self hiσ] at e2
        cases e2
        exact ⟨u, r, .inr ⟨.inl hk, c, hc, hc'⟩⟩
      · rw [List.getElem?_set_ne (Ne.symm hj)] at e2
        obtain ⟨u', r', q⟩ := hl j y v' e1 e2 e3
        refine ⟨u', r', ?_⟩
        rcases q with q | ⟨k, c', e, z'⟩
        · exact .inl q
        · refine .inr ⟨k, c', e, z'.sameBut hs ?_⟩
          rintro rfl
          exact hj (nodup_ix hN e1 (I.ok.inj _ _ _ e hc ▸ hi))
    · by_cases hcc : c' = c
      · subst hcc; exact ⟨_, hc'⟩
      · obtain ⟨w2, z2⟩ := I.cell y c' e
        exact ⟨w2, z2.sameBut hs hcc⟩
    · obtain ⟨e, n, ne, nf, d⟩ := I.pin p hp
      refine ⟨(hs.2 p.1 ?_).trans e, n, ne, nf, d⟩
      intro q
      rw [q, hoc] at e
      have q' : oc = p.2 := Option.some.inj e
      exact d w' (by rw [← q']; exact hocd)
theorem store_ok {M : Model} {A : Around} {E : Value → Shared → Prop} {i : Nat} {x : Str} {v : V} {u : Value} {Q : Unit → Shared → Prop} (I : Inv X pins σ H s) (hN : X.N.Nodup) (hi : X.N[i]? = some x) (hx : Loc X.env.scope x) (r : RelV v u)
    (h : ∀ s', Inv X pins (σ.set i (some v)) H s' → Q () s') (hf : X.fn x = true ∨ X.env.scope.names.lookup x = some .local := by first | exact .inl rfl | exact .inr rfl | assumption) : wpAny M A (storeName X.env x u) Q E s :=
  store_ok2 I hN hi hx r (fun s' I' _ => h s' I') hf
theorem Inv.call' {s' : Shared} {ch : List Addr} (I : Inv X pins σ H s) (ho : s'.os = s.os) (u : Un (frs X.stack) ch H H' s.heap s'.heap) (hok : HOk X.prog X.w H' s'.heap) (hg : AllBare s'.gens)
    (hch : ∀ b ∈ ch, (b ∈ X.ex ∨ X.s₀.heap.objs.size ≤ b) ∧ b ≠ X.env.locals ∧ (∀ x c, X.env.cells.lookup x = some c → c ≠ b) ∧ ∀ p ∈ X.pn ++ pins, p.1 ≠ b) : Inv X pins σ H' s' := by
  obtain ⟨h', g', d', t', o'⟩ := s'
  have e : o' = s.os := ho
  subst e
  exact I.call (g' := g') (t' := t') (d' := d') u hok hg hch
end
abbrev XK := Value → Option Addr → Hp → Prop
abbrev St := List (Option V)
abbrev VK := V → Hp → Prop
abbrev TE := St → Hp → VK → Prop
abbrev TT := St → Hp → (Bool → Hp → Prop) → Prop
abbrev TA := St → Hp → (List V → Hp → Prop) → Prop
structure Ends where
  nx : St → Hp → Prop
  rt : VK
  bk : St → Hp → Prop := fun _ _ => False
  ct : St → Hp → Prop := fun _ _ => False
abbrev TS := Ends → St → Hp → Prop
def EP (X : Cx) (pins : List (Addr × Obj)) (σ : St) (Q : VK) (u : Value) (s' : Shared) : Prop := ∃ v H', Inv X pins σ H' s' ∧ RelV v u ∧ Q v H'
def TP (X : Cx) (pins : List (Addr × Obj)) (σ : St) (Q : Bool → Hp → Prop) (b : Bool) (s' : Shared) : Prop := ∃ H', Inv X pins σ H' s' ∧ Q b H'
def AP (X : Cx) (pins : List (Addr × Obj)) (σ : St) (Q : List V → Hp → Prop) (us : List Value) (s' : Shared) : Prop := ∃ vs H', Inv X pins σ H' s' ∧ Vals vs us ∧ Q vs H'
def SP (X : Cx) (pins : List (Addr × Obj)) (D : Ends) (f : Flow) (s' : Shared) : Prop :=
  match f with
  | .next => ∃ σ' H', Inv X pins σ' H' s' ∧ D.nx σ' H'
  | .brk => ∃ σ' H', Inv X pins σ' H' s' ∧ D.bk σ' H'
  | .cont => ∃ σ' H', Inv X pins σ' H' s' ∧ D.ct σ' H'
  | .ret u => ∃ v σ' H', Inv X pins σ' H' s' ∧ RelV v u ∧ D.rt v H'
def PE (X : Cx) (e : Expr) (t : TE) : Prop :=
  ∀ (pins : List (Addr × Obj)) (s : Shared) (σ : St) (H : Hp) (Q : VK), Inv X pins σ H s → t σ H Q → wpAny (model X.prog X.w) X.A (eval e X.env) (EP X pins σ Q) X.xe s
def PT (X : Cx) (e : Expr) (t : TT) : Prop :=
  ∀ (pins : List (Addr × Obj)) (s : Shared) (σ : St) (H : Hp) (Q : Bool → Hp → Prop), Inv X pins σ H s → t σ H Q → wpAny (model X.prog X.w) X.A (isTrue e X.env (eval e X.env)) (TP X pins σ Q) X.xe s
def PW (X : Cx) (e : Expr) (t : TT) : Prop :=
  ∀ (whole : Sem Value) (pins : List (Addr × Obj)) (s : Shared) (σ : St) (H : Hp) (Q : Bool → Hp → Prop), Inv X pins σ H s → t σ H Q → wpAny (model X.prog X.w) X.A (isTrue e X.env whole) (TP X pins σ Q) X.xe s
theorem PW.pt {X : Cx} {e : Expr} {t : TT} (h : PW X e t) : PT X e t := h _
def PA (X : Cx) (es : List Expr) (t : TA) : Prop :=
  ∀ (pos : Pos) (pins : List (Addr × Obj)) (s : Shared) (σ : St) (H : Hp) (Q : List V → Hp → Prop), Inv X pins σ H s → t σ H Q → wpAny (model X.prog X.w) X.A (spliced (backTo pos (starEach es X.env))) (AP X pins σ Q) X.xe s
def PS (X : Cx) (st : Stmt) (t : TS) : Prop :=
  ∀ (pins : List (Addr × Obj)) (s : Shared) (σ : St) (H : Hp) (D : Ends), Inv X pins σ H s → t D σ H → wpAny (model X.prog X.w) X.A (exec st X.env) (SP X pins D) X.xe s
def PSs (X : Cx) (st : List Stmt) (t : TS) : Prop :=
  ∀ (pins : List (Addr × Obj)) (s : Shared) (σ : St) (H : Hp) (D : Ends), Inv X pins σ H s → t D σ H → wpAny (model X.prog X.w) X.A (execs st X.env) (SP X pins D) X.xe s
theorem thn {α : Type} {t : Sem α} {Q Q' : α → Shared → Prop} {M : Model} {A : Around} {E : Value → Shared → Prop} {s : Shared} (h : wpAny M A t Q E s) (hQ : ∀ a s, Q a s → Q' a s) : wpAny M A t Q' E s := wpAny_mono h hQ fun _ _ x => x
end L2
namespace L2
open PySem PySem.Spec PyProof.Rows
section
variable {X : Cx}
def tVar (i : Nat) : TE := fun σ H Q => ∃ v, σ[i]? = some (some v) ∧ Q v H
def tC (v : V) : TE := fun _ H Q => Q v H
theorem pe_var {i : Nat} {x : Str} {pos : Pos} (hN : X.N[i]? = some x) (hv : Vis X.env.scope x) (hd : (x == ("__debug__" : Str)) = false := by decide) (hcd : (x == ("__classdict__" : Str)) = false := by decide) : PE X (.Name x pos) (tVar i) := by
  intro pins s σ H Q I h
  obtain ⟨v, e, h⟩ := h
  obtain ⟨m, hn, hl⟩ := I.loc
  obtain ⟨u, r, l⟩ := hl i x v hN e hv
  have fin : EP X pins σ Q u s := ⟨v, H, I, r, h⟩
  rcases l with ⟨hk, hm⟩ | ⟨hk, c, hc, hcell⟩
  · exact wpAny_Name (wpAny_loadName_local I.ok.kind hk hn hm fin) hd
  · rcases hk with hk | hk
    · exact wpAny_Name (wpAny_loadName_cell I.ok.kind hk hc hcell fin) hd
    · exact wpAny_Name (wpAny_loadName_free I.ok.kind hk hc hcell fin hcd) hd
theorem pe_int {i j pos} : PE X (.Constant (.int i) j pos) (tC (.int i)) := fun _ _ _ H _ I h => wpAny_Constant_int ⟨.int i, H, I.tok _, ⟨_, rfl⟩, h⟩
theorem pe_bl {b j pos} : PE X (.Constant (.bool b) j pos) (tC (.bl b)) := fun _ _ _ H _ I h => Constant_bool ⟨.bl b, H, I, rfl, h⟩
theorem pe_non {j pos} : PE X (.Constant .none j pos) (tC .non) := fun _ _ _ H _ I h => Constant_none ⟨.non, H, I, rfl, h⟩
theorem pe_str {x j pos} : PE X (.Constant (.str x) j pos) (tC (.str x)) := fun _ _ _ H _ I h => Calls.Constant_str ⟨.str x, H, I.tok _, ⟨_, rfl⟩, h⟩
def Gl (X : Cx) (x : Str) : Prop := X.env.kindOf x = some .globalImplicit
theorem ld_glob {E : Value → Shared → Prop} {pins : List (Addr × Obj)} {s : Shared} {σ : St} {H : Hp} {x : Str} {u : Value} {pos : Pos} {Q : Value → Shared → Prop} (I : Inv X pins σ H s) (hg : Gl X x) (hm : X.mg x = some u) (h : Q u s)
    (hd : (x == ("__debug__" : Str)) = false := by decide) : wpAny (model X.prog X.w) X.A (eval (.Name x pos) X.env) Q E s :=
  Calls.Name_function_global I.ok.kind hg (Calls.loadGlobal_global (by rw [I.ok.glob]; exact I.mod.glob.keeps I.bk) hm h) hd
theorem ld_blt {E : Value → Shared → Prop} {pins : List (Addr × Obj)} {s : Shared} {σ : St} {H : Hp} {x : Str} {u : Value} {pos : Pos} {Q : Value → Shared → Prop} (I : Inv X pins σ H s) (hg : Gl X x) (hm : X.mg x = none) (hv : bootBuiltins x = some u) (h : Q u s)
    (hn : x ≠ "__name__" := by decide) (hd : (x == ("__debug__" : Str)) = false := by decide) : wpAny (model X.prog X.w) X.A (eval (.Name x pos) X.env) Q E s := by
  obtain ⟨mb, h1, h2⟩ := I.mod.blt
  exact Calls.Name_function_global I.ok.kind hg (Calls.loadGlobal_builtin (by rw [I.ok.glob]; exact I.mod.glob.keeps I.bk) hm (by rw [I.ok.blt]; exact h1.keeps I.bk) ((h2 x hn).trans hv) h) hd
theorem pe_glob {x : Str} {v : V} {u : Value} {pos : Pos} (hg : Gl X x) (hm : X.mg x = some u) (r : RelV v u) (hd : (x == ("__debug__" : Str)) = false := by decide) : PE X (.Name x pos) (tC v) :=
  fun _ _ _ H _ I h => ld_glob I hg hm ⟨v, H, I, r, h⟩ hd
theorem pe_bltn {x : Str} {v : V} {u : Value} {pos : Pos} (hg : Gl X x) (hm : X.mg x = none) (hv : bootBuiltins x = some u) (r : RelV v u) (hn : x ≠ "__name__" := by decide) (hd : (x == ("__debug__" : Str)) = false := by decide) : PE X (.Name x pos) (tC v) :=
  fun _ _ _ H _ I h => ld_blt I hg hm hv ⟨v, H, I, r, h⟩ hn hd
def t2I (ta tb : TE) (k : Int → Int → Hp → Prop) : St → Hp → Prop := fun σ H => ta σ H fun x H1 => tb σ H1 fun y H2 => ∃ i j, x = .int i ∧ y = .int j ∧ k i j H2
def tAdd (ta tb : TE) : TE := fun σ H Q => t2I ta tb (fun i j H2 => Q (.int (i + j)) H2) σ H
def tSub (ta tb : TE) : TE := fun σ H Q => t2I ta tb (fun i j H2 => Q (.int (i - j)) H2) σ H
def tMul (ta tb : TE) : TE := fun σ H Q => t2I ta tb (fun i j H2 => (-(2 ^ 64) < i ∧ i < 2 ^ 64) ∧ Q (.int (i * j)) H2) σ H
variable {a b : Expr} {ta tb : TE} {pos : Pos}
def PC (X : Cx) (op : CmpOp) (a b : Expr) (t : TE) : Prop :=
  ∀ (pins : List (Addr × Obj)) (s : Shared) (σ : St) (H : Hp) (Q : VK), Inv X pins σ H s → t σ H Q →
    wpAny (model X.prog X.w) X.A (eval a X.env) (fun v s₁ => wpAny (model X.prog X.w) X.A (eval b X.env) (fun u s₂ => wpAny (model X.prog X.w) X.A (compareOp op v u) (EP X pins σ Q) X.xe s₂) X.xe s₁) X.xe s
def tCmp (p : Int → Int → Bool) (ta tb : TE) : TE := fun σ H Q => t2I ta tb (fun i j H2 => Q (.bl (p i j)) H2) σ H
abbrev tLt : TE → TE → TE := tCmp fun i j => decide (i < j)
abbrev tLe : TE → TE → TE := tCmp fun i j => decide (i ≤ j)
abbrev tGt : TE → TE → TE := tCmp fun i j => decide (j < i)
abbrev tGe : TE → TE → TE := tCmp fun i j => decide (j ≤ i)
abbrev tEqI : TE → TE → TE := tCmp fun i j => decide (i = j)
abbrev tNeI : TE → TE → TE := tCmp fun i j => !decide (i = j)
def tIsN (ta : TE) : TE := fun σ H Q => ta σ H fun x H1 => Q (.bl (decide (x = .non))) H1
def tNotN (ta : TE) : TE := fun σ H Q => ta σ H fun x H1 => Q (.bl (!decide (x = .non))) H1
def tB (t : TE) : TT := fun σ H Q => t σ H fun x H1 => ∃ c, x = .bl c ∧ Q c H1
theorem pt_val {e : Expr} {t : TE} (h : PE X e t) (he : ∀ whole, isTrue e X.env whole = (do let v ← whole; standAt e.pos; holding [v] (truthy v)) := by intro _; rfl) : PT X e (tB t) := by
  intro pins s σ H Q I hw
  refine isTrue_plain (thn (h pins s σ H _ I hw) fun v s1 ⟨x, H1, I1, r1, q1⟩ => ?_) (he _)
  obtain ⟨d, rfl, q⟩ := q1
  cases r1
  exact wpAny_truthy_bool ⟨H1, I1, q⟩
variable {tA tB' : TT} {rest : List Expr}
def tAnd (t u : TT) : TT := fun σ H Q => t σ H fun c H1 => if c = true then u σ H1 Q else Q false H1
def tOr (t u : TT) : TT := fun σ H Q => t σ H fun c H1 => if c = true then Q true H1 else u σ H1 Q
def tNot (t : TT) : TT := fun σ H Q => t σ H fun c H1 => Q (!c) H1
theorem pw_and1 (ha : PT X a tA) : PW X (.BoolOp .And [a] pos) tA := by
  intro wh pins s σ H Q I h
  refine isTrue_and (thn (ha pins s σ H Q I h) fun c s1 e => ?_)
  cases c with
  | true => exact isTrue_and_nil e
  | false => exact e
theorem pw_or1 (ha : PT X a tA) : PW X (.BoolOp .Or [a] pos) tA := by
  intro wh pins s σ H Q I h
  refine isTrue_or (thn (ha pins s σ H Q I h) fun c s1 e => ?_)
  cases c with
  | false => exact isTrue_or_nil e
  | true => exact e
theorem pw_and (ha : PT X a tA) (hb : PW X (.BoolOp .And (b :: rest) pos) tB') : PW X (.BoolOp .And (a :: b :: rest) pos) (tAnd tA tB') := by
  intro wh pins s σ H Q I h
  refine isTrue_and (thn (ha pins s σ H _ I h) fun c s1 ⟨H1, I1, q1⟩ => ?_)
  cases c with
  | true => exact hb wh pins s1 σ H1 Q I1 q1
  | false => exact ⟨H1, I1, q1⟩
theorem pw_or (ha : PT X a tA) (hb : PW X (.BoolOp .Or (b :: rest) pos) tB') : PW X (.BoolOp .Or (a :: b :: rest) pos) (tOr tA tB') := by
  intro wh pins s σ H Q I h
  refine isTrue_or (thn (ha pins s σ H _ I h) fun c s1 ⟨H1, I1, q1⟩ => ?_)
  cases c with
  | true => exact ⟨H1, I1, q1⟩
  | false => exact hb wh pins s1 σ H1 Q I1 q1
theorem pt_not (ha : PT X a tA) : PT X (.UnaryOp .Not a pos) (tNot tA) := by
  intro pins s σ H Q I h
  exact isTrue_not (ha pins s σ H (fun c H1 => Q (!c) H1) I h)
def tAndV (ta tb : TE) : TE := fun σ H Q => ta σ H fun x H1 => ∃ c, x = .bl c ∧ if c = true then tb σ H1 Q else Q (.bl false) H1
def tOrV (ta tb : TE) : TE := fun σ H Q => ta σ H fun x H1 => ∃ c, x = .bl c ∧ if c = true then Q (.bl true) H1 else tb σ H1 Q
def tNotV (ta : TE) : TE := fun σ H Q => ta σ H fun x H1 => ∃ c, x = .bl c ∧ Q (.bl (!c)) H1
theorem pe_one {op} {t : TE} (h : PE X a t) : PE X (.BoolOp op [a] pos) t := fun pins s σ H Q I hw => BoolOp_one (h pins s σ H Q I hw)
theorem pe_and (ha : PE X a ta) (hb : PE X (.BoolOp .And (b :: rest) pos) tb) : PE X (.BoolOp .And (a :: b :: rest) pos) (tAndV ta tb) := by
  intro pins s σ H Q I h
  refine BoolOp_and (thn (ha pins s σ H _ I h) fun v s1 ⟨x, H1, I1, r1, q1⟩ => ?_)
  obtain ⟨c, rfl, q1⟩ := q1
  cases r1
  refine wpAny_truthy_bool ?_
  cases c with
  | true => exact hb pins s1 σ H1 Q I1 q1
  | false => exact ⟨.bl false, H1, I1, rfl, q1⟩
def tIf (t : TT) (ta tb : TE) : TE := fun σ H Q => t σ H fun c H1 => if c = true then ta σ H1 Q else tb σ H1 Q
end
end L2
namespace L2
open PySem PySem.Spec PyProof.Rows
def SqL (K : PySem.W.Frag) (H : Hp) (a : Addr) (xs : List V) : Prop :=
  Rd H a (.lst xs) ∨
    ∃ (o : Obj) (its : Array Value) (n : Nat), K.lookup a = some o ∧ o.cls = .type "list" ∧ o.dict = none ∧ o.data = .seq its n ∧ its.size ≤ sizeLine ∧ Vals xs its.toList
def SqT (K : PySem.W.Frag) (H : Hp) (a : Addr) (xs : List V) : Prop :=
  Rd H a (.tup xs) ∨
    ∃ (o : Obj) (its : Array Value) (n : Nat), K.lookup a = some o ∧ o.cls = .type "tuple" ∧ o.data = .seq its n ∧ its.size ≤ sizeLine ∧ Vals xs its.toList
def absV : Value → Option V
  | .none => some .non
  | .bool b => some (.bl b)
  | .int i _ => some (.int i)
  | .str x _ => some (.str x)
  | .bytes b _ => some (.byt b)
  | .float b _ => some (.flt b)
  | .ref a => some (.ref a)
  | .type n => some (.ty n)
  | _ => none
theorem RelV.abs {x : V} {u : Value} (r : RelV x u) : absV u = some x := by
  cases x with
  | non => cases r; rfl
  | bl _ => cases r; rfl
  | int _ => obtain ⟨t, rfl⟩ := r; rfl
  | str _ => obtain ⟨t, rfl⟩ := r; rfl
  | byt _ => obtain ⟨t, rfl⟩ := r; rfl
  | flt _ => obtain ⟨t, rfl⟩ := r; rfl
  | ref _ => cases r; rfl
  | ty _ => cases r; rfl
theorem RelV.inj {x y : V} {u : Value} (r : RelV x u) (q : RelV y u) : x = y := Option.some.inj (r.abs.symm.trans q.abs)
theorem Vals.inj : ∀ {xs ys : List V} {us : List Value}, Vals xs us → Vals ys us → xs = ys
  | _, _, _, .nil, .nil => rfl
  | _, _, _, .cons r t, .cons r' t' => by rw [r.inj r', Vals.inj t t']
section
variable {X : Cx} {pins : List (Addr × Obj)} {σ : St} {H : Hp} {s : Shared} {a : Addr} {xs ys : List V}
theorem SqL.of {K : PySem.W.Frag} (h : H a = some (.lst xs)) : SqL K H a xs := .inl (.inl h)
theorem SqT.of {K : PySem.W.Frag} (h : H a = some (.tup xs)) : SqT K H a xs := .inl (.inl h)
theorem Inv.list (I : Inv X pins σ H s) (h : SqL X.K H a xs) : ∃ its : List Value, Vals xs its ∧ PlainL s.heap a its.toArray ∧ xs.length ≤ sizeLine := by
  rcases h with h | ⟨o, its, n, hk, hc, hd, hs, hz, r⟩
  · obtain ⟨z, its, n, r, e⟩ := h.ok I.hok
    exact ⟨its, r, ⟨_, n, e, rfl, rfl, rfl⟩, z⟩
  · refine ⟨its.toList, r, ⟨o, n, I.kIn a o hk, hc, hd, by simpa using hs⟩, ?_⟩
    have e := r.length
    simp only [Array.length_toList] at e
    omega
theorem Inv.tuple (I : Inv X pins σ H s) (h : SqT X.K H a xs) : ∃ its : List Value, Vals xs its ∧ IsTup s.heap a its.toArray ∧ xs.length ≤ sizeLine := by
  rcases h with h | ⟨o, its, n, hk, hc, hs, hz, r⟩
  · obtain ⟨z, its, r, p⟩ := h.ok I.hok
    exact ⟨its, r, p.tup, z⟩
  · refine ⟨its.toList, r, ⟨o, I.kIn a o hk, hc, n, by simpa using hs⟩, ?_⟩
    have e := r.length
    simp only [Array.length_toList] at e
    omega
theorem Inv.list_inj (I : Inv X pins σ H s) (h : SqL X.K H a xs) (h' : SqL X.K H a ys) : xs = ys := by
  obtain ⟨its, r, ⟨o, n, e, _, _, d⟩, _⟩ := I.list h
  obtain ⟨its', r', ⟨o', n', e', _, _, d'⟩, _⟩ := I.list h'
  rw [e] at e'; cases e'
  rw [d] at d'
  injection d' with d1 _
  have : its = its' := by simpa using congrArg Array.toList d1
  subst this
  exact r.inj r'
theorem Inv.tuple_inj (I : Inv X pins σ H s) (h : SqT X.K H a xs) (h' : SqT X.K H a ys) : xs = ys := by
  obtain ⟨its, r, ⟨o, e, _, n, d⟩, _⟩ := I.tuple h
  obtain ⟨its', r', ⟨o', e', _, n', d'⟩, _⟩ := I.tuple h'
  rw [e] at e'; cases e'
  rw [d] at d'
  injection d' with d1 _
  have : its = its' := by simpa using congrArg Array.toList d1
  subst this
  exact r.inj r'
end
abbrev Cx.wish (X : Cx) (E : Value → Shared → Prop) : Cx := { X with xe := E }
abbrev Cx.nox (X : Cx) : Cx := X.wish fun _ _ => False
theorem Cx.Ok.wish {X : Cx} (ok : X.Ok) (E : Value → Shared → Prop) : (X.wish E).Ok :=
  ⟨ok.mod, ok.kind, ok.glob, ok.blt, ok.above, ok.inj, ok.has, ok.cab, ok.hd, ok.frames, ok.stk, ok.exf, ok.bs, ok.bsz, ok.noex, ok.exfs, ok.funs, ok.frf⟩
theorem Cx.Ok.unwish {X : Cx} {E : Value → Shared → Prop} (ok : (X.wish E).Ok) : X.Ok :=
  ⟨ok.mod, ok.kind, ok.glob, ok.blt, ok.above, ok.inj, ok.has, ok.cab, ok.hd, ok.frames, ok.stk, ok.exf, ok.bs, ok.bsz, ok.noex, ok.exfs, ok.funs, ok.frf⟩
section
variable {X : Cx} {pins : List (Addr × Obj)} {σ : St} {H : Hp} {s : Shared} {E : Value → Shared → Prop}
theorem Inv.wish (I : Inv X pins σ H s) (E : Value → Shared → Prop) : Inv (X.wish E) pins σ H s := ⟨I.ok.wish E, I.os, I.bare, I.base, I.loc, I.cell, I.free, I.freeC, I.pin, I.hok, I.len⟩
theorem Inv.unwish (I : Inv (X.wish E) pins σ H s) : Inv X pins σ H s := ⟨I.ok.unwish, I.os, I.bare, I.base, I.loc, I.cell, I.free, I.freeC, I.pin, I.hok, I.len⟩
theorem SP.unwish {D : Ends} {f : Flow} {s' : Shared} (h : SP (X.wish E) pins D f s') : SP X pins D f s' := by
  cases f with
  | next => obtain ⟨σ', H', I, q⟩ := h; exact ⟨σ', H', I.unwish, q⟩
  | brk => obtain ⟨σ', H', I, q⟩ := h; exact ⟨σ', H', I.unwish, q⟩
  | cont => obtain ⟨σ', H', I, q⟩ := h; exact ⟨σ', H', I.unwish, q⟩
  | ret u => obtain ⟨v, σ', H', I, r, q⟩ := h; exact ⟨v, σ', H', I.unwish, r, q⟩
theorem PE.nox {e : Expr} {t : TE} (h : PE X.nox e t) : PE X e t := fun pins s σ H Q I hw =>
  wpAny_mono (h pins s σ H Q (I.wish _) hw) (fun _ _ ⟨v, H', I', r, q⟩ => ⟨v, H', I'.unwish, r, q⟩) fun _ _ z => False.elim z
theorem PT.nox {e : Expr} {t : TT} (h : PT X.nox e t) : PT X e t := fun pins s σ H Q I hw =>
  wpAny_mono (h pins s σ H Q (I.wish _) hw) (fun _ _ ⟨H', I', q⟩ => ⟨H', I'.unwish, q⟩) fun _ _ z => False.elim z
theorem PSs.nox {st : List Stmt} {t : TS} (h : PSs X.nox st t) : PSs X st t := fun pins s σ H D I hw =>
  wpAny_mono (h pins s σ H D (I.wish _) hw) (fun _ _ q => q.unwish) fun _ _ z => False.elim z
end
section
variable {X : Cx} {st : Stmt} {rest : List Stmt} {t u : TS} {e : Expr} {te : TE} {pos : Pos}
def tNext : TS := fun D σ H => D.nx σ H
def tSeq (t u : TS) : TS := fun D σ H => t { D with nx := u D } σ H
theorem pss_nil : PSs X [] tNext := fun _ _ σ H _ I h => wpAny_execs_nil ⟨σ, H, I, h⟩
theorem pss_cons (h1 : PS X st t) (h2 : PSs X rest u) : PSs X (st :: rest) (tSeq t u) := by
  intro pins s σ H D I h
  refine wpAny_execs_cons (thn (h1 pins s σ H { D with nx := u D } I h) fun f s1 q => ?_)
  cases f with
  | next =>
    obtain ⟨σ', H', I', q⟩ := q
    exact h2 pins s1 σ' H' D I' q
  | ret v => exact q
  | brk => exact q
  | cont => exact q
theorem pss_one (h1 : PS X st t) : PSs X [st] t := by
  intro pins s σ H D I h
  refine wpAny_execs_cons (thn (h1 pins s σ H D I h) fun f s1 q => ?_)
  cases f with
  | next => exact wpAny_execs_nil q
  | ret v => exact q
  | brk => exact q
  | cont => exact q
def tBreak : TS := fun D σ H => D.bk σ H
def tCont : TS := fun D σ H => D.ct σ H
theorem Inv.quiet {pins : List (Addr × Obj)} {σ : St} {H : Hp} {s : Shared} (I : Inv X pins σ H s) : interactive X.env = false := by simp [interactive, I.ok.kind]
def tDrop (te : TE) : TS := fun D σ H => te σ H fun _ H1 => D.nx σ H1
theorem ps_expr (he : PE X e te) (hs : swapsWith e none pos.line X.env = pure false := by rfl) : PS X (.Expr e pos) (tDrop te) := by
  intro pins s σ H D I h
  exact wpAny_Expr_any (thn (he pins s σ H _ I h) fun v s1 ⟨x, H1, I1, r1, q1⟩ => ⟨σ, H1, I1, q1⟩) I.quiet hs
def tRet (te : TE) : TS := fun D σ H => te σ H D.rt
theorem ps_ret (he : PE X e te) : PS X (.Return (some e) pos) (tRet te) := by
  intro pins s σ H D I h
  exact wpAny_Return_some (thn (he pins s σ H _ I h) fun v s1 ⟨x, H1, I1, r1, q1⟩ => ⟨x, σ, H1, I1, r1, q1⟩)
def tRetN : TS := fun D _ H => D.rt .non H
def tIfS (c : TT) (t u : TS) : TS := fun D σ H => c σ H fun b H1 => if b = true then t D σ H1 else u D σ H1
theorem ps_if {c : Expr} {a b : List Stmt} {tc : TT} (hc : PT X c tc) (ha : PSs X a t) (hb : PSs X b u) : PS X (.If c a b pos) (tIfS tc t u) := by
  intro pins s σ H D I h
  refine wpAny_If (thn (hc pins s σ H _ I h) fun d s1 ⟨H1, I1, q1⟩ => ?_)
  cases d with
  | true => exact ha pins s1 σ H1 D I1 q1
  | false => exact hb pins s1 σ H1 D I1 q1
def tNever : TS := fun _ _ _ => False
end
abbrev TG := V → St → Hp → (St → Hp → Prop) → Prop
abbrev TGs := List V → St → Hp → (St → Hp → Prop) → Prop
def PG (X : Cx) (target : Expr) (t : TG) : Prop :=
  ∀ (pins : List (Addr × Obj)) (s : Shared) (σ : St) (H : Hp) (v : V) (u : Value) (Q : St → Hp → Prop), Inv X pins σ H s → RelV v u → t v σ H Q →
    wpAny (model X.prog X.w) X.A (assign target X.env u) (fun _ s' => ∃ σ' H', Inv X pins σ' H' s' ∧ Q σ' H') X.xe s
def PGs (X : Cx) (ts : List Expr) (t : TGs) : Prop :=
  ∀ (pins : List (Addr × Obj)) (s : Shared) (σ : St) (H : Hp) (vs : List V) (us : List Value) (Q : St → Hp → Prop), Inv X pins σ H s → Vals vs us → t vs σ H Q →
    wpAny (model X.prog X.w) X.A (assignInOrder ((assignEach ts X.env).map (·.2)) us) (fun _ s' => ∃ σ' H', Inv X pins σ' H' s' ∧ Q σ' H') X.xe s
abbrev TSet := V → V → V → Hp → (Hp → Prop) → Prop
def PSet (X : Cx) (t : TSet) : Prop :=
  ∀ (pins : List (Addr × Obj)) (s : Shared) (σ : St) (H : Hp) (o i v : V) (ov iv u : Value) (Q : Hp → Prop), Inv X pins σ H s → RelV o ov → RelV i iv → RelV v u → t o i v H Q →
    wpAny (model X.prog X.w) X.A (setItem ov iv u) (fun _ s' => ∃ H', Inv X pins σ H' s' ∧ Q H') X.xe s
abbrev TIp := V → V → Hp → VK → Prop
def PIp (X : Cx) (op : Operator) (t : TIp) : Prop :=
  ∀ (pins : List (Addr × Obj)) (s : Shared) (σ : St) (H : Hp) (x y : V) (v u : Value) (Q : VK), Inv X pins σ H s → RelV x v → RelV y u → t x y H Q →
    wpAny (model X.prog X.w) X.A (inplaceOp op v u) (EP X pins σ Q) X.xe s
section
variable {X : Cx} {pos : Pos}
def gName (i : Nat) : TG := fun v σ H Q => Q (σ.set i (some v)) H
theorem pg_name {i : Nat} {x : Str} (hN : X.N.Nodup) (hi : X.N[i]? = some x) (hx : Loc X.env.scope x) (hf : X.fn x = true ∨ X.env.scope.names.lookup x = some .local := by first | exact .inl rfl | exact .inr rfl | assumption) : PG X (.Name x pos) (gName i) := by
  intro pins s σ H v u Q I r h
  exact wpAny_assign_Name (store_ok I hN hi hx r (fun s' I' => ⟨_, H, I', h⟩) hf)
def gNil : TGs := fun vs σ H Q => vs = [] ∧ Q σ H
def gCons (t : TG) (u : TGs) : TGs := fun vs σ H Q => ∃ v r, vs = v :: r ∧ t v σ H fun σ' H' => u r σ' H' Q
theorem pgs_nil : PGs X [] gNil := by
  intro pins s σ H vs us Q I r h
  obtain ⟨e, h⟩ := h
  subst e
  cases r
  exact assignInOrder_nil ⟨σ, H, I, h⟩
theorem pgs_cons {e : Expr} {es : List Expr} {t : TG} {u : TGs} (h1 : PG X e t) (h2 : PGs X es u)
    (hs : (assignEach (e :: es) X.env).map (·.2) = assign e X.env :: (assignEach es X.env).map (·.2) := by rfl) : PGs X (e :: es) (gCons t u) := by
  intro pins s σ H vs us Q I r h
  obtain ⟨v, vr, e1, h⟩ := h
  subst e1
  cases r with
  | cons r rr =>
    rw [hs]
    refine assignInOrder_cons (thn (h1 pins s σ H _ _ _ I r h) fun _ s1 ⟨σ1, H1, I1, q1⟩ => ?_)
    exact h2 pins s1 σ1 H1 _ _ Q I1 rr q1
def gTup (K : PySem.W.Frag) (n : Nat) (t : TGs) : TG := fun v σ H Q => ∃ a xs, v = .ref a ∧ SqT K H a xs ∧ xs.length = n ∧ t xs σ H Q
theorem pg_tup {es : List Expr} {k : Nat} {t : TGs} {n : Nat} (hc : X.calm = true) (h : PGs X es t)
    (hn : (assignEach es X.env).length = n := by rfl) (hst : (assignEach es X.env).findIdx? (·.1) = none := by rfl) : PG X (.Tuple es k pos) (gTup X.K n t) := by
  intro pins s σ H v u Q I r hw
  obtain ⟨a, xs, e1, hq, hl, hw⟩ := hw
  subst e1
  cases r
  obtain ⟨its, rv, ht, hz⟩ := I.tuple hq
  refine assign_Tuple_tuple (I.ok.hd hc) ht (by simp [hn, ← hl, rv.length]) hst fun h' hx => ?_
  have I1 : Inv X pins σ H { s with heap := h' } := I.kept (t' := s.toks) fun b o e => hx b o (Nat.ne_of_lt (Heap.lt_size e)) e
  exact h pins _ σ H xs _ Q I1 (by simpa using rv) hw
def gSub (to ti : TE) (t : TSet) : TG := fun v σ H Q => to σ H fun o H1 => ti σ H1 fun i H2 => t o i v H2 fun H3 => Q σ H3
theorem pg_sub {o i : Expr} {to ti : TE} {t : TSet} (ho : PE X o to) (hi : PE X i ti) (hs : PSet X t)
    (ha : ∀ v, assign (.Subscript o i pos) X.env v = (do
      let ov ← holding [v] (eval o X.env)
      let iv ← holding [v, ov] (eval i X.env)
      standAt pos
      holding [v, ov, iv] (setItem ov iv v)
      release [v, ov, iv] []) := by intro _; rfl) : PG X (.Subscript o i pos) (gSub to ti t) := by
  intro pins s σ H v u Q I r h
  rw [ha]
  refine wpAny_bind (wpAny_holding (thn (ho pins s σ H _ I h) fun ov s1 ⟨x, H1, I1, r1, q1⟩ => ?_))
  refine wpAny_bind (wpAny_holding (thn (hi pins s1 σ H1 _ I1 q1) fun iv s2 ⟨y, H2, I2, r2, q2⟩ => ?_))
  refine wpAny_bind (wpAny_standAt (wpAny_bind (wpAny_holding (thn (hs pins s2 σ H2 x y v ov iv u _ I2 r1 r2 r q2) fun _ s3 ⟨H3, I3, q3⟩ => ?_))))
  exact wpAny_release ⟨σ, H3, I3, q3⟩
def tAsg (te : TE) (g : TG) : TS := fun D σ H => te σ H fun x H1 => g x σ H1 D.nx
theorem ps_asg {tg e : Expr} {te : TE} {g : TG} (he : PE X e te) (hg : PG X tg g) (hs : swapsWithSole [tg] e pos.line X.env = pure false := by rfl) (hw : swappedStores [tg] e X.env = pure none := by rfl)
    (h1 : (assignEach [tg] X.env).map (·.2) = [assign tg X.env] := by rfl) : PS X (.Assign [tg] e pos) (tAsg te g) := by
  intro pins s σ H D I h
  refine wpAny_Assign_stores (thn (he pins s σ H _ I h) fun v s1 ⟨x, H1, I1, r1, q1⟩ => ?_) hs hw
  rw [h1]
  exact thn (hg pins s1 σ H1 x v _ I1 r1 q1) fun _ s2 q => q
theorem ps_set {i : Nat} {x : Str} {e : Expr} {te : TE} {pos' : Pos} (hN : X.N.Nodup) (hi : X.N[i]? = some x) (hx : Loc X.env.scope x) (he : PE X e te) (hs : swapsWith e (some (.Name x pos')) pos.line X.env = pure false := by rfl) (hf : X.fn x = true ∨ X.env.scope.names.lookup x = some .local := by first | exact .inl rfl | exact .inr rfl | assumption) :
    PS X (.Assign [.Name x pos'] e pos) (tAsg te (gName i)) := by
  intro pins s σ H D I h
  refine wpAny_Assign_Name (thn (he pins s σ H _ I h) fun v s1 ⟨y, H1, I1, r1, q1⟩ => ?_) hs
  exact store_ok I1 hN hi hx r1 (fun s2 I2 => ⟨_, H1, I2, q1⟩) hf
def tPar (i j : Nat) (ta : TA) : TS := fun D σ H => ta σ H fun vs H1 => ∃ v w, vs = [v, w] ∧ D.nx ((σ.set i (some v)).set j (some w)) H1
def tAug (i : Nat) (te : TE) (ti : TIp) : TS := fun D σ H => ∃ x, σ[i]? = some (some x) ∧ te σ H fun y H1 => ti x y H1 fun z H2 => D.nx (σ.set i (some z)) H2
theorem ps_aug {i : Nat} {x : Str} {e : Expr} {te : TE} {op : Operator} {ti : TIp} {pos' : Pos} (hN : X.N.Nodup) (hi : X.N[i]? = some x) (hx : Loc X.env.scope x) (he : PE X e te) (ho : PIp X op ti) (hf : X.fn x = true ∨ X.env.scope.names.lookup x = some .local := by first | exact .inl rfl | exact .inr rfl | assumption) :
    PS X (.AugAssign (.Name x pos') op e pos) (tAug i te ti) := by
  intro pins s σ H D I h
  obtain ⟨v, e1, h⟩ := h
  obtain ⟨m, hn, hl⟩ := I.loc
  have vis : Vis X.env.scope x := by rcases hx with k | k; exact .inl k; exact .inr (.inl k)
  obtain ⟨u, r, l⟩ := hl i x v hi e1 vis
  refine wpAny_AugAssign_Name ?_
  have go : wpAny (model X.prog X.w) X.A (eval e X.env) (fun w s₂ => wpAny (model X.prog X.w) X.A (inplaceOp op u w) (fun r s₃ => wpAny (model X.prog X.w) X.A (storeName X.env x r) (fun _ => SP X pins D .next) X.xe s₃) X.xe s₂) X.xe s := by
    refine thn (he pins s σ H _ I h) fun w s1 ⟨y, H1, I1, r1, q1⟩ => ?_
    refine thn (ho pins s1 σ H1 v y u w _ I1 r r1 q1) fun z s2 ⟨zv, H2, I2, r2, q2⟩ => ?_
    exact store_ok I2 hN hi hx r2 (fun s3 I3 => ⟨_, H2, I3, q2⟩) hf
  rcases l with ⟨hk, hm⟩ | ⟨hk, c, hc, hcell⟩
  · exact wpAny_loadName_local I.ok.kind hk hn hm go
  · rcases hk with hk | hk
    · exact wpAny_loadName_cell I.ok.kind hk hc hcell go
    · rcases hx with k | k
      · have : X.env.scope.names.lookup x = some .free := hk
        rw [k] at this; cases this
      · have : X.env.scope.names.lookup x = some .free := hk
        rw [k] at this; cases this
def tAugS (to ti te : TE) (tget : V → V → Hp → VK → Prop) (tip : TIp) (tset : TSet) : TS := fun D σ H => to σ H fun o H1 => ti σ H1 fun i H2 => tget o i H2 fun x H3 => te σ H3 fun y H4 => tip x y H4 fun z H5 => tset o i z H5 fun H6 => D.nx σ H6
def PGet (X : Cx) (t : V → V → Hp → VK → Prop) : Prop :=
  ∀ (pins : List (Addr × Obj)) (s : Shared) (σ : St) (H : Hp) (o i : V) (ov iv : Value) (Q : VK), Inv X pins σ H s → RelV o ov → RelV i iv → t o i H Q →
    wpAny (model X.prog X.w) X.A (getItem ov iv) (EP X pins σ Q) X.xe s
def ipI (f : Int → Int → Int) : TIp := fun x y H Q => ∃ i j, x = .int i ∧ y = .int j ∧ Q (.int (f i j)) H
theorem ip_add : PIp X .Add (ipI fun i j => i + j) := by
  intro pins s σ H x y v u Q I r1 r2 h
  obtain ⟨i, j, e1, e2, q⟩ := h
  subst e1; subst e2
  obtain ⟨t, rfl⟩ := r1
  obtain ⟨t', rfl⟩ := r2
  exact iadd_int ⟨.int _, H, I.tok _, ⟨_, rfl⟩, q⟩
end
section
variable {X : Cx} {pos : Pos}
def tWhile (c : TT) (tb : TS) : TS := fun D σ H => ∃ W : Nat → St → Hp → Prop, (∃ m, W m σ H) ∧ ∀ m σ H, W m σ H →
  c σ H fun b H1 => if b = true then ∃ N : St → Hp → Prop, (∀ σ' H', N σ' H' → ∃ m', m' < m ∧ W m' σ' H') ∧ tb { D with nx := N, ct := N, bk := D.nx } σ H1 else D.nx σ H1
theorem ps_while {c : Expr} {body : List Stmt} {tc : TT} {tb : TS} (hp : PassesOwn (model X.prog X.w) X.A X.env X.xe) (hc : PT X c tc) (hb : PSs X body tb) : PS X (.While c body [] pos) (tWhile tc tb) := by
  intro pins s σ H D I h
  obtain ⟨W, ⟨m0, w0⟩, turn⟩ := h
  refine wpAny_While (codeAny_whileLoop (fun n s' => ∃ σ' H', Inv X pins σ' H' s' ∧ W n σ' H') ?_ m0 ⟨σ, H, I, w0⟩)
  rintro n s1 ⟨σ1, H1, I1, w1⟩
  refine wpAny_passesOwn hp (thn (hc pins s1 σ1 H1 _ I1 (turn n σ1 H1 w1)) fun b s2 ⟨H2, I2, q2⟩ => ?_)
  cases b with
  | true =>
    obtain ⟨N, hN, q2⟩ := q2
    rw [if_pos rfl]
    refine wpAny_passesOwn hp (thn (hb pins s2 σ1 H2 _ I2 q2) fun f s3 q3 => ?_)
    cases f with
    | next =>
      obtain ⟨σ3, H3, I3, n3⟩ := q3
      obtain ⟨m', hm, w3⟩ := hN σ3 H3 n3
      exact ⟨m', hm, σ3, H3, I3, w3⟩
    | cont =>
      obtain ⟨σ3, H3, I3, n3⟩ := q3
      obtain ⟨m', hm, w3⟩ := hN σ3 H3 n3
      exact ⟨m', hm, σ3, H3, I3, w3⟩
    | brk => exact q3
    | ret v => exact q3
  | false =>
    rw [if_neg Bool.false_ne_true]
    exact wpAny_execs_nil ⟨σ1, H2, I2, q2⟩
end
structure It where
  go : Nat → Hp → Prop
  yld : Nat → Hp → V → Hp → Prop
  stop : Nat → Hp → Prop
def FpOk (X : Cx) (pins : List (Addr × Obj)) (H : Hp) (b : Addr) : Prop :=
  H b = none ∧ b ≠ X.env.locals ∧ b ∉ X.fs ∧ (b ∈ X.ex ∨ X.s₀.heap.objs.size ≤ b) ∧ (∀ x c, X.env.cells.lookup x = some c → c ≠ b) ∧ ∀ p ∈ X.pn ++ pins, p.1 ≠ b
theorem Inv.fpOk {X : Cx} {pins : List (Addr × Obj)} {σ : St} {H H' : Hp} {s : Shared} {b : Addr} (I : Inv X pins σ H s) (hb : s.heap.objs.size ≤ b) (hn : H' b = none) : FpOk X pins H' b := by
  refine ⟨hn, Nat.ne_of_gt (Nat.lt_of_lt_of_le I.lt hb), I.nofs hb, .inr (Nat.le_trans I.sz hb), fun x c e z => ?_, fun p hp z => ?_⟩
  · obtain ⟨v, q⟩ := I.cell x c e
    exact absurd (Nat.lt_of_lt_of_le q.lt (by rw [z]; exact hb)) (Nat.lt_irrefl _)
  · exact absurd (Nat.lt_of_lt_of_le (Heap.lt_size (I.pin p hp).1) (by rw [z]; exact hb)) (Nat.lt_irrefl _)
structure Turn (P : Program) (w : World) (K : PySem.W.Frag) (tg : Expr) (J : It) (fp : List Addr) (it : Addr) (tn : Nat → Heap → Prop) : Prop where
  mem : it ∈ fp
  obj : ∀ i h, tn i h → ∀ b ∈ fp, ∃ o, h.get? b = some o ∧ ∀ v, o.data ≠ .cell v
  keep : ∀ i h h', tn i h → (∀ b ∈ fp, ∀ o, h.get? b = some o → h'.get? b = some o) → tn i h'
  item : ∀ (X : Cx), X.prog = P → X.w = w → X.K = K → X.calm = true → ∀ (i : Nat) (pins : List (Addr × Obj)) (s : Shared) (σ : St) (H : Hp) (E : Value → Shared → Prop), Inv X pins σ H s → (∀ b ∈ fp, FpOk X pins H b) → tn i s.heap → J.go i H →
    wpAny (model P w) X.A (pyNext (.ref it)) (fun r s1 => ∃ u, r = some u ∧
      wpAny (model P w) X.A (letOwnedTupleGo tg (.ref it) u) (fun _ s2 => ∃ x H', Inv X pins σ H' s2 ∧ RelV x u ∧ J.yld i H x H' ∧ tn (i + 1) s2.heap ∧ ∀ b ∈ fp, H' b = none) E s1) E s
  done : ∀ (X : Cx), X.prog = P → X.w = w → X.K = K → X.calm = true → ∀ (i : Nat) (pins : List (Addr × Obj)) (s : Shared) (σ : St) (H : Hp) (E : Value → Shared → Prop), Inv X pins σ H s → (∀ b ∈ fp, FpOk X pins H b) → tn i s.heap → J.stop i H →
    wpAny (model P w) X.A (pyNext (.ref it)) (fun r s1 => r = none ∧ Inv X pins σ H s1) E s
  self : ∀ (A : Around) (i : Nat) (s : Shared) (Q : Value → Shared → Prop) (E : Value → Shared → Prop), tn i s.heap → Q (.ref it) s → wpAny (model P w) A (pyIter (.ref it)) Q E s
abbrev TI := St → Hp → (It → Hp → Prop) → Prop
def PIE (X : Cx) (pins : List (Addr × Obj)) (σ : St) (tg : Expr) (R : It → Hp → Prop) (itv : Value) (s2 : Shared) : Prop :=
  ∃ (it : Addr) (fp : List Addr) (tn : Nat → Heap → Prop) (J : It) (H' : Hp), itv = .ref it ∧ Inv X pins σ H' s2 ∧ Turn X.prog X.w X.K tg J fp it tn ∧ tn 0 s2.heap ∧ (∀ b ∈ fp, FpOk X pins H' b) ∧ R J H'
def PI (X : Cx) (tg iter : Expr) (wi : TI) : Prop :=
  ∀ (pins : List (Addr × Obj)) (s : Shared) (σ : St) (H : Hp) (R : It → Hp → Prop), Inv X pins σ H s → wi σ H R →
    wpAny (model X.prog X.w) X.A (eval iter X.env) (fun v s1 => wpAny (model X.prog X.w) X.A (pyIter v) (PIE X pins σ tg R) X.xe s1) X.xe s
theorem go_of {M : Model} {A : Around} {E : Value → Shared → Prop} {s : Shared} {tg : Expr} {it : Addr} {u : Value} {o : Obj} {n : String} {vs : Array Value} {Q : Unit → Shared → Prop} (ho : s.heap.get? it = some o) (hc : o.cls = .type n) (hd : o.data = .fields vs)
    (hn : ["enumerate", "zip", "dict_itemiterator", "dict_reverseitemiterator", "odict_iterator", "itertools.zip_longest", "itertools.pairwise"].contains n = false) (hQ : Q () s) : wpAny M A (letOwnedTupleGo tg (.ref it) u) Q E s := by
  unfold letOwnedTupleGo
  cases tg <;> first
    | exact wpAny_pure hQ
    | (cases u <;> first
        | exact wpAny_pure hQ
        | (refine wpAny_bind (wpAny_load ho ?_)
           rw [hc, hd]
           show wpAny M A (if (["enumerate", "zip", "dict_itemiterator", "dict_reverseitemiterator", "odict_iterator", "itertools.zip_longest", "itertools.pairwise"].contains n && vs[0]? == some (rawInt _)) = true then _ else _) Q E s
           rw [if_neg (by intro h; rw [hn, Bool.false_and] at h; cases h)]
           exact wpAny_pure hQ))
def Itl (K : PySem.W.Frag) (a : Addr) : It :=
  ⟨fun i H => ∃ xs x, SqL K H a xs ∧ xs[i]? = some x, fun i H x H' => H' = H ∧ ∀ xs, SqL K H a xs → xs[i]? = some x, fun i H => ∃ xs, SqL K H a xs ∧ xs.length ≤ i⟩
def Itt (K : PySem.W.Frag) (a : Addr) : It :=
  ⟨fun i H => ∃ xs x, SqT K H a xs ∧ xs[i]? = some x, fun i H x H' => H' = H ∧ ∀ xs, SqT K H a xs → xs[i]? = some x, fun i H => ∃ xs, SqT K H a xs ∧ xs.length ≤ i⟩
def Itr (lo : Int) (n : Nat) : It := ⟨fun i _ => i < n, fun i H x H' => H' = H ∧ x = .int (lo + i), fun i _ => n ≤ i⟩
theorem turn_list {P : Program} {w : World} {K : PySem.W.Frag} {tg : Expr} (a it : Addr) : Turn P w K tg (Itl K a) [it] it (fun i h => h.IsListIter it a i) where
  mem := by simp
  obj := fun i h st b hb => by
    have e : b = it := by simpa using hb
    subst e
    obtain ⟨o, e, c, d⟩ := st
    exact ⟨o, e, fun v z => by rw [d] at z; cases z⟩
  keep := fun i h h' st k => st.at fun o e => k it (by simp) o e
  item := by
    intro X hP hw hK hc i pins s σ H E I hf st hg
    subst hP hw hK
    obtain ⟨xs, x, hq, hx⟩ := hg
    obtain ⟨its, rv, p, hz⟩ := I.list hq
    obtain ⟨u, hu, ru⟩ := rv.get hx
    obtain ⟨f0, f1, f2, f3, f4, f5⟩ := hf it (by simp)
    refine wpAny_pyNext_list_item st p.isList (x := u) (by simpa using hu) fun h' st' sb => ?_
    have I1 : Inv X pins σ H { s with heap := h' } := I.turned (t' := s.toks) (fun b o hb e => (sb.2 b hb).trans e) f0 f1 f3 f4 f5
    obtain ⟨o, e, c, d⟩ := id st'
    exact ⟨u, rfl, go_of (s := { s with heap := h' }) e c d (by decide) ⟨x, H, I1, ru, ⟨rfl, fun ys hy => by rw [I.list_inj hy hq]; exact hx⟩, st', fun b hb => (hf b hb).1⟩⟩
  done := by
    intro X hP hw hK hc i pins s σ H E I hf st hg
    subst hP hw hK
    obtain ⟨xs, hq, hx⟩ := hg
    obtain ⟨its, rv, p, hz⟩ := I.list hq
    obtain ⟨f0, f1, f2, f3, f4, f5⟩ := hf it (by simp)
    have hl := rv.length
    exact wpAny_pyNext_list_end (I.ok.hd hc) st p.isList (by simp; omega) fun h' eb => ⟨rfl, I.turned (t' := s.toks) (fun b o hb e => eb b o hb e) f0 f1 f3 f4 f5⟩
  self := fun _ _ _ _ _ st h => wpAny_pyIter_listiter st h
theorem turn_tuple {P : Program} {w : World} {K : PySem.W.Frag} {tg : Expr} (a it : Addr) : Turn P w K tg (Itt K a) [it] it (fun i h => h.IsTupleIter it a i) where
  mem := by simp
  obj := fun i h st b hb => by
    have e : b = it := by simpa using hb
    subst e
    obtain ⟨o, e, c, d⟩ := st
    exact ⟨o, e, fun v z => by rw [d] at z; cases z⟩
  keep := fun i h h' st k => st.at fun o e => k it (by simp) o e
  item := by
    intro X hP hw hK hc i pins s σ H E I hf st hg
    subst hP hw hK
    obtain ⟨xs, x, hq, hx⟩ := hg
    obtain ⟨its, rv, p, hz⟩ := I.tuple hq
    obtain ⟨u, hu, ru⟩ := rv.get hx
    obtain ⟨f0, f1, f2, f3, f4, f5⟩ := hf it (by simp)
    refine wpAny_pyNext_tuple_item st (show s.heap.IsTuple a its.toArray from p) (x := u) (by simpa using hu) fun h' st' sb => ?_
    have I1 : Inv X pins σ H { s with heap := h' } := I.turned (t' := s.toks) (fun b o hb e => (sb.2 b hb).trans e) f0 f1 f3 f4 f5
    obtain ⟨o, e, c, d⟩ := id st'
    exact ⟨u, rfl, go_of (s := { s with heap := h' }) e c d (by decide) ⟨x, H, I1, ru, ⟨rfl, fun ys hy => by rw [I.tuple_inj hy hq]; exact hx⟩, st', fun b hb => (hf b hb).1⟩⟩
  done := by
    intro X hP hw hK hc i pins s σ H E I hf st hg
    subst hP hw hK
    obtain ⟨xs, hq, hx⟩ := hg
    obtain ⟨its, rv, p, hz⟩ := I.tuple hq
    obtain ⟨f0, f1, f2, f3, f4, f5⟩ := hf it (by simp)
    have hl := rv.length
    exact wpAny_pyNext_tuple_end (I.ok.hd hc) st (show s.heap.IsTuple a its.toArray from p) (by simp; omega) fun h' eb => ⟨rfl, I.turned (t' := s.toks) (fun b o hb e => eb b o hb e) f0 f1 f3 f4 f5⟩
  self := fun _ _ _ _ _ st h => wpAny_pyIter_tupleiter st h
theorem turn_range {P : Program} {w : World} {K : PySem.W.Frag} {tg : Expr} (it : Addr) (lo : Int) (n : Nat) : Turn P w K tg (Itr lo n) [it] it (fun i h => IsRangeIter h it (lo + (i : Nat) * 1) ((n : Int) - (i : Nat)) 1) where
  mem := by simp
  obj := fun i h st b hb => by
    have e : b = it := by simpa using hb
    subst e
    exact ⟨_, st, fun v z => by
      have z' : Data.fields _ = Data.cell v := z
      cases z'⟩
  keep := fun i h h' st k => k it (by simp) _ st
  item := by
    intro X hP hw hK hc i pins s σ H E I hf st hg
    subst hP hw hK
    obtain ⟨f0, f1, f2, f3, f4, f5⟩ := hf it (by simp)
    have W := Walks.range (prog := X.prog) (w := X.w) (I.ok.hd hc) it lo 1 n
    refine W.item i s _ _ hg st fun v h' tk hv st' kk => ?_
    obtain ⟨t, rfl⟩ := hv
    have I1 : Inv X pins σ H { s with heap := h', toks := tk } := I.turned (fun b o hb e => kk b o (by simpa using hb) e) f0 f1 f3 f4 f5
    refine ⟨_, rfl, go_of (s := { s with heap := h', toks := tk }) (n := "range_iterator") st' rfl rfl (by decide) ⟨.int (lo + i), H, I1, ⟨t, ?_⟩, ⟨rfl, rfl⟩, st', fun b hb => (hf b hb).1⟩⟩
    rw [Int.mul_one]
  done := by
    intro X hP hw hK hc i pins s σ H E I hf st hg
    subst hP hw hK
    obtain ⟨f0, f1, f2, f3, f4, f5⟩ := hf it (by simp)
    exact wpAny_pyNext_range_end (I.ok.hd hc) st (by have : n ≤ i := hg; omega) fun h' eb => ⟨rfl, I.turned (t' := s.toks) (fun b o hb e => eb b o hb e) f0 f1 f3 f4 f5⟩
  self := fun _ _ _ _ _ st h => wpAny_pyIter_rangeiter st h
end L2
namespace L2
open PySem PySem.Spec PyProof.Rows
section
variable {X : Cx} {tg : Expr}
def iList (K : PySem.W.Frag) (tl : TE) : TI := fun σ H R => tl σ H fun x H1 => ∃ a, x = .ref a ∧ (∃ xs, SqL K H1 a xs) ∧ R (Itl K a) H1
def iTup (K : PySem.W.Frag) (tl : TE) : TI := fun σ H R => tl σ H fun x H1 => ∃ a, x = .ref a ∧ (∃ xs, SqT K H1 a xs) ∧ R (Itt K a) H1
theorem pi_list {l : Expr} {tl : TE} (hl : PE X l tl) : PI X tg l (iList X.K tl) := by
  intro pins s σ H R I h
  refine thn (hl pins s σ H _ I h) fun v s1 ⟨x, H1, I1, r1, q1⟩ => ?_
  obtain ⟨a, e, ⟨xs, hq⟩, q⟩ := q1
  subst e
  cases r1
  obtain ⟨its, rv, p, hz⟩ := I1.list hq
  refine wpAny_pyIter_list p.isList ?_
  refine ⟨s1.heap.objs.size, [s1.heap.objs.size], _, _, H1, rfl, I1.kept (t' := s1.toks) fun b o e => Heap.get?_push_of_some _ e, turn_list a _, ⟨_, Heap.get?_push_size _ rfl, rfl, rfl⟩, fun b hb => ?_, q⟩
  have e : b = s1.heap.objs.size := by simpa using hb
  subst e
  exact I1.fpOk (Nat.le_refl _) (I1.hok.fresh (Nat.le_refl _))
theorem pi_tup {l : Expr} {tl : TE} (hl : PE X l tl) : PI X tg l (iTup X.K tl) := by
  intro pins s σ H R I h
  refine thn (hl pins s σ H _ I h) fun v s1 ⟨x, H1, I1, r1, q1⟩ => ?_
  obtain ⟨a, e, ⟨xs, hq⟩, q⟩ := q1
  subst e
  cases r1
  obtain ⟨its, rv, p, hz⟩ := I1.tuple hq
  refine wpAny_pyIter_tuple (show s1.heap.IsTuple a its.toArray from p) ?_
  refine ⟨s1.heap.objs.size, [s1.heap.objs.size], _, _, H1, rfl, I1.kept (t' := s1.toks) fun b o e => Heap.get?_push_of_some _ e, turn_tuple a _, ⟨_, Heap.get?_push_size _ rfl, rfl, rfl⟩, fun b hb => ?_, q⟩
  have e : b = s1.heap.objs.size := by simpa using hb
  subst e
  exact I1.fpOk (Nat.le_refl _) (I1.hok.fresh (Nat.le_refl _))
theorem range_it {pins : List (Addr × Obj)} {σ : St} {H : Hp} {s : Shared} {R : It → Hp → Prop} {E : Value → Shared → Prop} {lo hi : Int} {t u v : Tok} {tk : Nat} (I : Inv X pins σ H s) (h1 : -(2 ^ 62) ≤ lo) (h2 : lo < 2 ^ 62) (h3 : -(2 ^ 62) ≤ hi) (h4 : hi < 2 ^ 62)
    (q : R (Itr lo (hi - lo).toNat) H) : wpAny (model X.prog X.w) X.A (pyIter (.ref s.heap.objs.size)) (PIE X pins σ tg R) E { s with heap := s.heap.push { cls := .type "range", data := .fields #[.int lo t, .int hi u, .int 1 v] }, toks := tk } := by
  refine wpAny_pyIter_range (IsRange.new ..) (small_one h1 h2 h3 h4) ?_
  have I1 : Inv X pins σ H { s with heap := s.heap.push { cls := .type "range", data := .fields #[.int lo t, .int hi u, .int 1 v] }, toks := tk } := I.kept fun b o e => Heap.get?_push_of_some _ e
  refine ⟨(s.heap.push { cls := .type "range", data := .fields #[.int lo t, .int hi u, .int 1 v] }).objs.size, [(s.heap.push { cls := .type "range", data := .fields #[.int lo t, .int hi u, .int 1 v] }).objs.size], _, _, H, rfl,
    I1.kept (t' := tk) fun b o e => Heap.get?_push_of_some _ e, turn_range _ lo (hi - lo).toNat, ?_, fun b hb => ?_, q⟩
  · have e1 : lo + ((0 : Nat) : Int) * 1 = lo := by simp
    have e2 : (((hi - lo).toNat : Nat) : Int) - ((0 : Nat) : Int) = Builtin.Range.rangeSize lo hi 1 := by rw [rangeSize_one]; split <;> omega
    show IsRangeIter _ _ (lo + ((0 : Nat) : Int) * 1) ((((hi - lo).toNat : Nat) : Int) - ((0 : Nat) : Int)) 1
    rw [e1, e2]
    exact Heap.get?_push_size _ rfl
  · have e : b = (s.heap.push { cls := .type "range", data := .fields #[.int lo t, .int hi u, .int 1 v] }).objs.size := by simpa using hb
    subst e
    exact I1.fpOk (Nat.le_refl _) (I1.hok.fresh (Nat.le_refl _))
def iRng1 (ta : TA) : TI := fun σ H R => ta σ H fun vs H1 => ∃ j : Int, vs = [.int j] ∧ -(2 ^ 62) ≤ j ∧ j < 2 ^ 62 ∧ R (Itr 0 j.toNat) H1
def iRng2 (ta : TA) : TI := fun σ H R => ta σ H fun vs H1 => ∃ i j : Int, vs = [.int i, .int j] ∧ (-(2 ^ 62) ≤ i ∧ i < 2 ^ 62 ∧ -(2 ^ 62) ≤ j ∧ j < 2 ^ 62) ∧ R (Itr i (j - i).toNat) H1
theorem pi_range1 {a : Expr} {ta : TA} {p pos : Pos} (hg : Gl X "range") (hm : X.mg "range" = none) (ha : PA X [a] ta) (hs : starEach [a] X.env = [(false, eval a X.env)] := by rfl) : PI X tg (.Call (.Name "range" p) [a] [] pos) (iRng1 ta) := by
  intro pins s σ H R I h
  refine Call_ (ld_blt I hg hm boot_range (PyProof.Rows.callWith_type1 (thn (ha pos pins s σ H _ I h) fun us s1 ⟨vs, H1, I1, r1, q1⟩ => ?_) hs rfl))
  obtain ⟨j, e, q1, q2, q⟩ := q1
  subst e
  cases r1 with
  | cons r rr =>
    cases rr
    obtain ⟨t, rfl⟩ := r
    exact call_range_1 (range_it I1 (by omega) (by omega) q1 q2 (by simpa using q))
theorem pi_range2 {a b : Expr} {ta : TA} {p pos : Pos} (hg : Gl X "range") (hm : X.mg "range" = none) (ha : PA X [a, b] ta) (hs : starEach [a, b] X.env = [(false, eval a X.env), (false, eval b X.env)] := by rfl) (hs2 : starEach [b] X.env = [(false, eval b X.env)] := by rfl) :
    PI X tg (.Call (.Name "range" p) [a, b] [] pos) (iRng2 ta) := by
  intro pins s σ H R I h
  refine Call_ (ld_blt I hg hm boot_range (PyProof.Rows.callWith_type1 (thn (ha pos pins s σ H _ I h) fun us s1 ⟨vs, H1, I1, r1, q1⟩ => ?_) (by rw [hs, hs2]) (by rw [hs2]; rfl)))
  obtain ⟨i, j, e, ⟨q1, q2, q3, q4⟩, q⟩ := q1
  subst e
  cases r1 with
  | cons r rr =>
    cases rr with
    | cons r' rr =>
      cases rr
      obtain ⟨t, rfl⟩ := r
      obtain ⟨t', rfl⟩ := r'
      exact call_range_2 (range_it I1 q1 q2 q3 q4 q)
def tFor (wi : TI) (g : TG) (tb : TS) : TS := fun D σ H => wi σ H fun J H1 => ∃ W : Nat → Nat → St → Hp → Prop, (∃ m, W 0 m σ H1) ∧ ∀ i m σ H, W i m σ H →
  (J.stop i H ∧ D.nx σ H) ∨ (J.go i H ∧ ∃ N : St → Hp → Prop, (∀ σ' H', N σ' H' → ∃ m', m' < m ∧ W (i + 1) m' σ' H') ∧ ∀ x H', J.yld i H x H' → g x σ H' fun σ2 H2 => tb { D with nx := N, ct := N, bk := D.nx } σ2 H2)
def pinsAt (fp : List Addr) (h : Heap) : List (Addr × Obj) := fp.filterMap fun b => (h.get? b).map fun o => (b, o)
theorem mem_pinsAt {fp : List Addr} {h : Heap} {b : Addr} {o : Obj} (hb : b ∈ fp) (e : h.get? b = some o) : (b, o) ∈ pinsAt fp h := List.mem_filterMap.mpr ⟨b, hb, by rw [e]; rfl⟩
theorem of_pinsAt {fp : List Addr} {h : Heap} {p : Addr × Obj} (hp : p ∈ pinsAt fp h) : p.1 ∈ fp ∧ h.get? p.1 = some p.2 := by
  obtain ⟨b, hb, e⟩ := List.mem_filterMap.mp hp
  cases q : h.get? b with
  | none => rw [q] at e; cases e
  | some o =>
    rw [q] at e
    have e' : (b, o) = p := Option.some.inj e
    subst e'
    exact ⟨hb, q⟩
theorem Inv.pinned {pins : List (Addr × Obj)} {σ : St} {H : Hp} {s : Shared} {fp : List Addr} (I : Inv X pins σ H s) (hf : ∀ b ∈ fp, FpOk X pins H b) (ho : ∀ b ∈ fp, ∃ o, s.heap.get? b = some o ∧ ∀ v, o.data ≠ .cell v) : Inv X (pins ++ pinsAt fp s.heap) σ H s :=
  I.pins_of fun p hp => (List.mem_append.mp hp).elim (fun z => I.pin p (List.mem_append_right _ z)) fun z => by
    obtain ⟨hb, e⟩ := of_pinsAt z
    obtain ⟨f0, f1, f2, _⟩ := hf p.1 hb
    obtain ⟨o, e', d⟩ := ho p.1 hb
    rw [e] at e'; cases e'
    exact ⟨e, f0, f1, f2, d⟩
theorem Inv.unpinned {pins pl : List (Addr × Obj)} {σ : St} {H : Hp} {s : Shared} (I : Inv X (pins ++ pl) σ H s) : Inv X pins σ H s := I.pins_of fun p hp => I.pin p (List.mem_append_right _ (List.mem_append_left _ hp))
theorem ps_for {iter : Expr} {body : List Stmt} {wi : TI} {g : TG} {tb : TS} {pos : Pos} (hp : PassesOwn (model X.prog X.w) X.A X.env X.xe) (hc : X.calm = true) (hi : PI X tg iter wi) (hg : PG X tg g) (hb : PSs X body tb)
    (hs : ∀ x, foldedSetIterable iter X.env x = pure x := by intro _; rfl) : PS X (.For tg iter body [] pos) (tFor wi g tb) := by
  intro pins s σ H D I h
  refine wpAny_For (thn (hi pins s σ H _ I h) fun v s1 h1 => thn h1 fun itv s2 h2 => ?_) hs
  obtain ⟨it, fp, tn, J, H2, e, I2, T, st2, f2, W, ⟨m0, w0⟩, turn⟩ := h2
  subst e
  -- what stays true of the iterator's objects through the loop
  have stat : ∀ {H' : Hp}, (∀ b ∈ fp, H' b = none) → ∀ b ∈ fp, FpOk X pins H' b := fun hn b hb => ⟨hn b hb, (f2 b hb).2⟩
  refine codeAny_forLoop_any (fun n s' => ∃ i σ' H', Inv X pins σ' H' s' ∧ tn i s'.heap ∧ (∀ b ∈ fp, H' b = none) ∧ W i n σ' H') ?_ m0 ⟨0, σ, H2, I2, st2, fun b hb => (f2 b hb).1, w0⟩
  rintro n s3 ⟨i, σ3, H3, I3, st3, fr3, w3⟩
  rcases turn i n σ3 H3 w3 with ⟨stop, qn⟩ | ⟨go, N, hN, step⟩
  · refine wpAny_passesOwn hp (thn (T.done X rfl rfl rfl hc i pins s3 σ3 H3 X.xe I3 (stat fr3) st3 stop) fun r s4 ⟨hr, I4⟩ => ?_)
    subst hr
    exact wpAny_execs_nil ⟨σ3, H3, I4, qn⟩
  · refine wpAny_passesOwn hp (thn (T.item X rfl rfl rfl hc i pins s3 σ3 H3 X.xe I3 (stat fr3) st3 go) fun r s4 ⟨u, hr, h4⟩ => ?_)
    subst hr
    refine wpAny_passesOwn hp (thn h4 fun _ s5 ⟨x, H5, I5, r5, y5, st5, fr5⟩ => ?_)
    have I5' := I5.pinned (stat fr5) (T.obj _ _ st5)
    refine wpAny_passesOwn hp (thn (hg _ s5 σ3 H5 x u _ I5' r5 (step x H5 y5)) fun _ s6 ⟨σ6, H6, I6, q6⟩ => ?_)
    refine wpAny_passesOwn hp (thn (hb _ s6 σ6 H6 _ I6 q6) fun f s7 q7 => ?_)
    have again : ∀ {σ7 : St} {H7 : Hp}, Inv X (pins ++ pinsAt fp s5.heap) σ7 H7 s7 → N σ7 H7 → ∃ m, m < n ∧ ∃ i σ' H', Inv X pins σ' H' s7 ∧ tn i s7.heap ∧ (∀ b ∈ fp, H' b = none) ∧ W i m σ' H' := fun {σ7 H7} I7 n7 => by
      obtain ⟨m', hm, w7⟩ := hN σ7 H7 n7
      refine ⟨m', hm, i + 1, σ7, H7, I7.unpinned, T.keep _ _ _ st5 fun b hb o e => (I7.pin (b, o) (List.mem_append_right _ (List.mem_append_right _ (mem_pinsAt hb e)))).1, fun b hb => ?_, w7⟩
      obtain ⟨o, e, d⟩ := T.obj _ _ st5 b hb
      exact (I7.pin (b, o) (List.mem_append_right _ (List.mem_append_right _ (mem_pinsAt hb e)))).2.1
    cases f with
    | next => obtain ⟨σ7, H7, I7, n7⟩ := q7; exact again I7 n7
    | cont => obtain ⟨σ7, H7, I7, n7⟩ := q7; exact again I7 n7
    | brk => obtain ⟨σ7, H7, I7, q7⟩ := q7; exact ⟨σ7, H7, I7.unpinned, q7⟩
    | ret v => obtain ⟨x7, σ7, H7, I7, r7, q7⟩ := q7; exact ⟨x7, σ7, H7, I7.unpinned, r7, q7⟩
end
theorem for_list {K : PySem.W.Frag} {a : Addr} {xs : List V} {g : TG} {tb : TS} {D : Ends} {σ : St} {H : Hp} (Pv : Nat → St → Hp → Prop) (h0 : Pv 0 σ H) (hl : ∀ i σ H, i ≤ xs.length → Pv i σ H → SqL K H a xs)
    (hs : ∀ i x σ H, xs[i]? = some x → Pv i σ H → g x σ H fun σ2 H2 => tb { D with nx := Pv (i + 1), ct := Pv (i + 1), bk := D.nx } σ2 H2) (hd : ∀ σ H, Pv xs.length σ H → D.nx σ H) :
    ∃ W : Nat → Nat → St → Hp → Prop, (∃ m, W 0 m σ H) ∧ ∀ i m σ H, W i m σ H →
      ((Itl K a).stop i H ∧ D.nx σ H) ∨ ((Itl K a).go i H ∧ ∃ N : St → Hp → Prop, (∀ σ' H', N σ' H' → ∃ m', m' < m ∧ W (i + 1) m' σ' H') ∧ ∀ x H', (Itl K a).yld i H x H' → g x σ H' fun σ2 H2 => tb { D with nx := N, ct := N, bk := D.nx } σ2 H2) := by
  refine ⟨fun i m σ H => m = xs.length - i ∧ i ≤ xs.length ∧ Pv i σ H, ⟨xs.length, by simp, Nat.zero_le _, h0⟩, ?_⟩
  rintro i m σ H ⟨rfl, hi, p⟩
  have q := hl i σ H hi p
  by_cases hlt : i < xs.length
  · refine .inr ⟨⟨xs, xs[i], q, by simp [hlt]⟩, Pv (i + 1), fun σ' H' p' => ⟨xs.length - (i + 1), by omega, rfl, hlt, p'⟩, fun x H' y => ?_⟩
    obtain ⟨e, y⟩ := y
    subst e
    exact hs i x σ _ (y xs q) p
  · have e : i = xs.length := by omega
    subst e
    exact .inl ⟨⟨xs, q, Nat.le_refl _⟩, hd σ H p⟩
theorem for_tup {K : PySem.W.Frag} {a : Addr} {xs : List V} {g : TG} {tb : TS} {D : Ends} {σ : St} {H : Hp} (Pv : Nat → St → Hp → Prop) (h0 : Pv 0 σ H) (hl : ∀ i σ H, i ≤ xs.length → Pv i σ H → SqT K H a xs)
    (hs : ∀ i x σ H, xs[i]? = some x → Pv i σ H → g x σ H fun σ2 H2 => tb { D with nx := Pv (i + 1), ct := Pv (i + 1), bk := D.nx } σ2 H2) (hd : ∀ σ H, Pv xs.length σ H → D.nx σ H) :
    ∃ W : Nat → Nat → St → Hp → Prop, (∃ m, W 0 m σ H) ∧ ∀ i m σ H, W i m σ H →
      ((Itt K a).stop i H ∧ D.nx σ H) ∨ ((Itt K a).go i H ∧ ∃ N : St → Hp → Prop, (∀ σ' H', N σ' H' → ∃ m', m' < m ∧ W (i + 1) m' σ' H') ∧ ∀ x H', (Itt K a).yld i H x H' → g x σ H' fun σ2 H2 => tb { D with nx := N, ct := N, bk := D.nx } σ2 H2) := by
  refine ⟨fun i m σ H => m = xs.length - i ∧ i ≤ xs.length ∧ Pv i σ H, ⟨xs.length, by simp, Nat.zero_le _, h0⟩, ?_⟩
  rintro i m σ H ⟨rfl, hi, p⟩
  have q := hl i σ H hi p
  by_cases hlt : i < xs.length
  · refine .inr ⟨⟨xs, xs[i], q, by simp [hlt]⟩, Pv (i + 1), fun σ' H' p' => ⟨xs.length - (i + 1), by omega, rfl, hlt, p'⟩, fun x H' y => ?_⟩
    obtain ⟨e, y⟩ := y
    subst e
    exact hs i x σ _ (y xs q) p
  · have e : i = xs.length := by omega
    subst e
    exact .inl ⟨⟨xs, q, Nat.le_refl _⟩, hd σ H p⟩
theorem for_range {lo : Int} {n : Nat} {g : TG} {tb : TS} {D : Ends} {σ : St} {H : Hp} (Pv : Nat → St → Hp → Prop) (h0 : Pv 0 σ H)
    (hs : ∀ i σ H, i < n → Pv i σ H → g (.int (lo + i)) σ H fun σ2 H2 => tb { D with nx := Pv (i + 1), ct := Pv (i + 1), bk := D.nx } σ2 H2) (hd : ∀ σ H, Pv n σ H → D.nx σ H) :
    ∃ W : Nat → Nat → St → Hp → Prop, (∃ m, W 0 m σ H) ∧ ∀ i m σ H, W i m σ H →
      ((Itr lo n).stop i H ∧ D.nx σ H) ∨ ((Itr lo n).go i H ∧ ∃ N : St → Hp → Prop, (∀ σ' H', N σ' H' → ∃ m', m' < m ∧ W (i + 1) m' σ' H') ∧ ∀ x H', (Itr lo n).yld i H x H' → g x σ H' fun σ2 H2 => tb { D with nx := N, ct := N, bk := D.nx } σ2 H2) := by
  refine ⟨fun i m σ H => m = n - i ∧ i ≤ n ∧ Pv i σ H, ⟨n, by simp, Nat.zero_le _, h0⟩, ?_⟩
  rintro i m σ H ⟨rfl, hi, p⟩
  by_cases hlt : i < n
  · refine .inr ⟨hlt, Pv (i + 1), fun σ' H' p' => ⟨n - (i + 1), by omega, rfl, hlt, p'⟩, fun x H' y => ?_⟩
    obtain ⟨e, y⟩ := y
    subst e y
    exact hs i σ _ hlt p
  · have e : i = n := by omega
    subst e
    exact .inl ⟨Nat.le_refl _, hd σ H p⟩
end L2
namespace L2
open PySem PySem.Spec PyProof.Rows
abbrev R2 := V → V → Hp → VK → Prop
def OpR (X : Cx) (f : Value → Value → Sem Value) (r : R2) : Prop :=
  ∀ (pins : List (Addr × Obj)) (s : Shared) (σ : St) (H : Hp) (x y : V) (v u : Value) (Q : VK), Inv X pins σ H s → RelV x v → RelV y u → r x y H Q →
    wpAny (model X.prog X.w) X.A (f v u) (EP X pins σ Q) X.xe s
def UnR (X : Cx) (f : Value → Sem Value) (r : V → Hp → VK → Prop) : Prop :=
  ∀ (pins : List (Addr × Obj)) (s : Shared) (σ : St) (H : Hp) (x : V) (v : Value) (Q : VK), Inv X pins σ H s → RelV x v → r x H Q →
    wpAny (model X.prog X.w) X.A (f v) (EP X pins σ Q) X.xe s
def CallR (X : Cx) (f : Value) (r : List V → Hp → VK → Prop) : Prop :=
  ∀ (pins : List (Addr × Obj)) (s : Shared) (σ : St) (H : Hp) (xs : List V) (us : List Value) (Q : VK), Inv X pins σ H s → Vals xs us → r xs H Q →
    wpAny (model X.prog X.w) X.A (call f us) (EP X pins σ Q) X.xe s
def TruR (X : Cx) (r : V → Hp → (Bool → Hp → Prop) → Prop) : Prop :=
  ∀ (pins : List (Addr × Obj)) (s : Shared) (σ : St) (H : Hp) (x : V) (v : Value) (Q : Bool → Hp → Prop), Inv X pins σ H s → RelV x v → r x H Q →
    wpAny (model X.prog X.w) X.A (truthy v) (TP X pins σ Q) X.xe s
def tOp (r : R2) (ta tb : TE) : TE := fun σ H Q => ta σ H fun x H1 => tb σ H1 fun y H2 => r x y H2 Q
def tUn (r : V → Hp → VK → Prop) (ta : TE) : TE := fun σ H Q => ta σ H fun x H1 => r x H1 Q
def rI (C : Int → Int → Prop) (g : Int → Int → V) : R2 := fun x y H Q => ∃ i j, x = .int i ∧ y = .int j ∧ C i j ∧ Q (g i j) H
def rI0 (g : Int → Int → V) : R2 := fun x y H Q => ∃ i j, x = .int i ∧ y = .int j ∧ Q (g i j) H
def rU (g : Int → V) : V → Hp → VK → Prop := fun x H Q => ∃ i, x = .int i ∧ Q (g i) H
section
variable {X : Cx} {a b c : Expr} {ta tb tc : TE} {pos : Pos}
theorem binT (ha : PE X a ta) (hb : PE X b tb) {pins : List (Addr × Obj)} {s : Shared} {σ : St} {H : Hp} {R : V → V → Hp → Prop} (I : Inv X pins σ H s)
    (h : ta σ H fun x H1 => tb σ H1 fun y H2 => R x y H2) {Q : Value → Shared → Prop} {f : Value → Value → Sem Value}
    (hf : ∀ v u s2 x y H2, Inv X pins σ H2 s2 → RelV x v → RelV y u → R x y H2 → wpAny (model X.prog X.w) X.A (f v u) Q X.xe s2) :
    wpAny (model X.prog X.w) X.A (eval a X.env) (fun v s₁ => wpAny (model X.prog X.w) X.A (eval b X.env) (fun u s₂ => wpAny (model X.prog X.w) X.A (f v u) Q X.xe s₂) X.xe s₁) X.xe s := by
  refine thn (ha pins s σ H _ I h) fun v s1 ⟨x, H1, I1, r1, q1⟩ => ?_
  refine thn (hb pins s1 σ H1 _ I1 q1) fun u s2 ⟨y, H2, I2, r2, q2⟩ => ?_
  exact hf v u s2 x y H2 I2 r1 r2 q2
theorem pe_op {op : Operator} {r : R2} (ho : OpR X (binaryOp op) r) (ha : PE X a ta) (hb : PE X b tb) : PE X (.BinOp a op b pos) (tOp r ta tb) := by
  intro pins s σ H Q I h
  exact wpAny_BinOp (binT ha hb I h fun v u s2 x y H2 I2 rx ry q => ho pins s2 σ H2 x y v u Q I2 rx ry q)
theorem pe_un {op : UnaryOp} {r : V → Hp → VK → Prop} (ho : UnR X (unaryOp op) r) (ha : PE X a ta) : PE X (.UnaryOp op a pos) (tUn r ta) := by
  intro pins s σ H Q I h
  exact UnaryOp_ (thn (ha pins s σ H _ I h) fun v s1 ⟨x, H1, I1, r1, q1⟩ => ho pins s1 σ H1 x v Q I1 r1 q1)
theorem opI {f : Value → Value → Sem Value} {C : Int → Int → Prop} {g : Int → Int → Int}
    (rule : ∀ (i j : Int) (t u : Tok) (s : Shared) (Q : Value → Shared → Prop) (E : Value → Shared → Prop), C i j → Q (.int (g i j) s.toks) { s with toks := s.toks + 1 } → wpAny (model X.prog X.w) X.A (f (.int i t) (.int j u)) Q E s) :
    OpR X f (rI C fun i j => .int (g i j)) := by
  intro pins s σ H x y v u Q I rx ry h
  obtain ⟨i, j, rfl, rfl, hc, q⟩ := h
  obtain ⟨t, rfl⟩ := rx
  obtain ⟨t', rfl⟩ := ry
  exact rule i j t t' s _ _ hc ⟨.int (g i j), H, I.tok _, ⟨_, rfl⟩, q⟩
theorem opI0 {f : Value → Value → Sem Value} {g : Int → Int → Int}
    (rule : ∀ (i j : Int) (t u : Tok) (s : Shared) (Q : Value → Shared → Prop) (E : Value → Shared → Prop), Q (.int (g i j) s.toks) { s with toks := s.toks + 1 } → wpAny (model X.prog X.w) X.A (f (.int i t) (.int j u)) Q E s) :
    OpR X f (rI0 fun i j => .int (g i j)) := by
  intro pins s σ H x y v u Q I rx ry h
  obtain ⟨i, j, rfl, rfl, q⟩ := h
  obtain ⟨t, rfl⟩ := rx
  obtain ⟨t', rfl⟩ := ry
  exact rule i j t t' s _ _ ⟨.int (g i j), H, I.tok _, ⟨_, rfl⟩, q⟩
theorem opB0 {f : Value → Value → Sem Value} {g : Int → Int → Bool}
    (rule : ∀ (i j : Int) (t u : Tok) (s : Shared) (Q : Value → Shared → Prop) (E : Value → Shared → Prop), Q (.bool (g i j)) s → wpAny (model X.prog X.w) X.A (f (.int i t) (.int j u)) Q E s) :
    OpR X f (rI0 fun i j => .bl (g i j)) := by
  intro pins s σ H x y v u Q I rx ry h
  obtain ⟨i, j, rfl, rfl, q⟩ := h
  obtain ⟨t, rfl⟩ := rx
  obtain ⟨t', rfl⟩ := ry
  exact rule i j t t' s _ _ ⟨.bl (g i j), H, I, rfl, q⟩
def CDiv (i j : Int) : Prop := 0 < j ∧ j < 1073741824
def CDivN (i j : Int) : Prop := j ≠ 0 ∧ j.natAbs < 1073741824
def CPow (i j : Int) : Prop := 0 ≤ j ∧ j ≤ 1000000 ∧ i.natAbs < 2 ^ 64
def CMul (i j : Int) : Prop := (-(2 ^ 64) < i ∧ i < 2 ^ 64) ∨ (-(2 ^ 64) < j ∧ j < 2 ^ 64)
theorem CMul.ok {i j : Int} (h : CMul i j) : IntMulOk i j := by
  rcases h with ⟨h1, h2⟩ | ⟨h1, h2⟩
  · exact .of_left (intBits_le_64 h1 h2)
  · exact .of_right (intBits_le_64 h1 h2)
theorem op_add : OpR X (binaryOp .Add) (rI0 fun i j => .int (i + j)) := opI0 fun _ _ _ _ _ _ _ q => add_int q
theorem op_sub : OpR X (binaryOp .Sub) (rI0 fun i j => .int (i - j)) := opI0 fun _ _ _ _ _ _ _ q => sub_int q
theorem op_mul : OpR X (binaryOp .Mult) (rI CMul fun i j => .int (i * j)) := opI fun _ _ _ _ _ _ _ hc q => mul_int q hc.ok
theorem op_fdiv : OpR X (binaryOp .FloorDiv) (rI CDiv fun i j => .int (i / j)) := opI fun i j _ _ _ _ _ hc q => by
  have h1 : (0 : Int) < j := hc.1
  have h2 : j < 1073741824 := hc.2
  exact floordiv_int (by omega) (by rw [Int.fdiv_eq_ediv_of_nonneg i (by omega)]; exact q) (.inl (PyProof.noPylong_small (by omega)))
theorem op_mod : OpR X (binaryOp .Mod) (rI (fun _ j => 0 < j) fun i j => .int (i % j)) := opI fun i j _ _ _ _ _ hc q => by
  have h1 : (0 : Int) < j := hc
  exact mod_int' (by omega) (by rw [Int.fmod_eq_emod_of_nonneg i (by omega)]; exact q)
theorem unI {f : Value → Sem Value} {g : Int → Int}
    (rule : ∀ (i : Int) (t : Tok) (s : Shared) (Q : Value → Shared → Prop) (E : Value → Shared → Prop), Q (.int (g i) s.toks) { s with toks := s.toks + 1 } → wpAny (model X.prog X.w) X.A (f (.int i t)) Q E s) :
    UnR X f (rU fun i => .int (g i)) := by
  intro pins s σ H x v Q I rx h
  obtain ⟨i, rfl, q⟩ := h
  obtain ⟨t, rfl⟩ := rx
  exact rule i t s _ _ ⟨.int (g i), H, I.tok _, ⟨_, rfl⟩, q⟩
theorem un_neg : UnR X (unaryOp .USub) (rU fun i => .int (-i)) := unI fun _ _ _ _ _ q => neg_int q
end
def scal : V → V → Bool
  | .non, .non => true | .non, .int _ => true | .int _, .non => true | .non, .bl _ => true | .bl _, .non => true | .non, .str _ => true | .str _, .non => true
  | .int _, .int _ => true | .bl _, .bl _ => true | .str _, .str _ => true | .byt _, .byt _ => true
  | .int _, .str _ => true | .str _, .int _ => true | .bl _, .str _ => true | .str _, .bl _ => true
  | _, _ => false
def rEq : R2 := fun x y H Q => scal x y = true ∧ Q (.bl (decide (x = y))) H
def rNe : R2 := fun x y H Q => scal x y = true ∧ Q (.bl (!decide (x = y))) H
theorem dec_int {i j : Int} : decide (V.int i = V.int j) = (i == j) := by
  rw [Bool.eq_iff_iff]
  simp
theorem dec_bl {i j : Bool} : decide (V.bl i = V.bl j) = (i == j) := by
  rw [Bool.eq_iff_iff]
  simp
theorem dec_str {i j : Str} : decide (V.str i = V.str j) = (i == j) := by
  rw [Bool.eq_iff_iff]
  simp
theorem dec_byt {i j : Array UInt8} : decide (V.byt i = V.byt j) = (i.toList == j.toList) := by
  rw [Bool.eq_iff_iff]
  cases i
  cases j
  simp
section
variable {X : Cx} {a b c : Expr} {ta tb tc : TE} {pos : Pos}
theorem fin_bl {pins : List (Addr × Obj)} {σ : St} {H : Hp} {s : Shared} {Q : VK} {k k' : Bool} (I : Inv X pins σ H s) (q : Q (.bl k) H) (e : k = k') : EP X pins σ Q (.bool k') s := by
  subst e
  exact ⟨.bl k, H, I, rfl, q⟩
theorem op_eq : OpR X (compareOp .Eq) rEq := by
  intro pins s σ H x y v u Q I rx ry h
  obtain ⟨hs, q⟩ := h
  cases x with
  | non =>
    cases rx
    cases y with
    | non => cases ry; exact PySem.EqNone.eq_none_none (fin_bl I q (by simp))
    | bl j => cases ry; exact PySem.EqNone.eq_none_bool (fin_bl I q (by simp))
    | int j => obtain ⟨t', rfl⟩ := ry; exact PySem.EqNone.eq_none_int (fin_bl I q (by simp))
    | str j => obtain ⟨t', rfl⟩ := ry; exact PySem.EqNone.eq_none_str (fin_bl I q (by simp))
    | _ => exact absurd (show false = true from hs) Bool.false_ne_true
  | bl i =>
    cases rx
    cases y with
    | non => cases ry; exact PySem.EqNone.eq_bool_none (fin_bl I q (by simp))
    | bl j => cases ry; exact eq_bool (fin_bl I q dec_bl)
    | str j => obtain ⟨t', rfl⟩ := ry; exact PySem.EqMixed.eq_bool_str (fin_bl I q (by simp))
    | _ => exact absurd (show false = true from hs) Bool.false_ne_true
  | int i =>
    obtain ⟨t, rfl⟩ := rx
    cases y with
    | non => cases ry; exact PySem.EqNone.eq_int_none (fin_bl I q (by simp))
    | int j => obtain ⟨t', rfl⟩ := ry; exact eq_int (fin_bl I q dec_int)
    | str j => obtain ⟨t', rfl⟩ := ry; exact PySem.EqMixed.eq_int_str (fin_bl I q (by simp))
    | _ => exact absurd (show false = true from hs) Bool.false_ne_true
  | str i =>
    obtain ⟨t, rfl⟩ := rx
    cases y with
    | non => cases ry; exact PySem.EqNone.eq_str_none (fin_bl I q (by simp))
    | bl j => cases ry; exact PySem.EqMixed.eq_str_bool (fin_bl I q (by simp))
    | int j => obtain ⟨t', rfl⟩ := ry; exact PySem.EqMixed.eq_str_int (fin_bl I q (by simp))
    | str j => obtain ⟨t', rfl⟩ := ry; exact eq_str (fin_bl I q dec_str)
    | _ => exact absurd (show false = true from hs) Bool.false_ne_true
  | byt i =>
    obtain ⟨t, rfl⟩ := rx
    cases y with
    | byt j => obtain ⟨t', rfl⟩ := ry; exact PySem.W.eq_bytes (fin_bl I q dec_byt)
    | _ => exact absurd (show false = true from hs) Bool.false_ne_true
  | _ => cases y <;> exact absurd (show false = true from hs) Bool.false_ne_true
theorem op_ne : OpR X (compareOp .NotEq) rNe := by
  intro pins s σ H x y v u Q I rx ry h
  obtain ⟨hs, q⟩ := h
  cases x with
  | non =>
    cases rx
    cases y with
    | non => cases ry; exact PySem.EqNone.ne_none_none (fin_bl I q (by simp))
    | bl j => cases ry; exact PySem.EqNone.ne_none_bool (fin_bl I q (by simp))
    | int j => obtain ⟨t', rfl⟩ := ry; exact PySem.EqNone.ne_none_int (fin_bl I q (by simp))
    | str j => obtain ⟨t', rfl⟩ := ry; exact PySem.EqNone.ne_none_str (fin_bl I q (by simp))
    | _ => exact absurd (show false = true from hs) Bool.false_ne_true
  | bl i =>
    cases rx
    cases y with
    | non => cases ry; exact PySem.EqNone.ne_bool_none (fin_bl I q (by simp))
    | bl j => cases ry; exact ne_bool (fin_bl I q (congrArg not dec_bl))
    | str j => obtain ⟨t', rfl⟩ := ry; exact PySem.EqMixed.ne_bool_str (fin_bl I q (by simp))
    | _ => exact absurd (show false = true from hs) Bool.false_ne_true
  | int i =>
    obtain ⟨t, rfl⟩ := rx
    cases y with
    | non => cases ry; exact PySem.EqNone.ne_int_none (fin_bl I q (by simp))
    | int j => obtain ⟨t', rfl⟩ := ry; exact ne_int (fin_bl I q (congrArg not dec_int))
    | str j => obtain ⟨t', rfl⟩ := ry; exact PySem.EqMixed.ne_int_str (fin_bl I q (by simp))
    | _ => exact absurd (show false = true from hs) Bool.false_ne_true
  | str i =>
    obtain ⟨t, rfl⟩ := rx
    cases y with
    | non => cases ry; exact PySem.EqNone.ne_str_none (fin_bl I q (by simp))
    | bl j => cases ry; exact PySem.EqMixed.ne_str_bool (fin_bl I q (by simp))
    | int j => obtain ⟨t', rfl⟩ := ry; exact PySem.EqMixed.ne_str_int (fin_bl I q (by simp))
    | str j => obtain ⟨t', rfl⟩ := ry; exact ne_str (fin_bl I q (congrArg not dec_str))
    | _ => exact absurd (show false = true from hs) Bool.false_ne_true
  | byt i =>
    obtain ⟨t, rfl⟩ := rx
    cases y with
    | byt j => obtain ⟨t', rfl⟩ := ry; exact PySem.W.ne_bytes (fin_bl I q (congrArg not dec_byt))
    | _ => exact absurd (show false = true from hs) Bool.false_ne_true
  | _ => cases y <;> exact absurd (show false = true from hs) Bool.false_ne_true
theorem op_lt : OpR X (compareOp .Lt) (rI0 fun i j => .bl (decide (i < j))) := opB0 fun _ _ _ _ _ _ _ q => lt_int q
theorem op_le : OpR X (compareOp .LtE) (rI0 fun i j => .bl (decide (i ≤ j))) := opB0 fun _ _ _ _ _ _ _ q => le_int q
theorem op_gt : OpR X (compareOp .Gt) (rI0 fun i j => .bl (decide (j < i))) := opB0 fun _ _ _ _ _ _ _ q => gt_int q
theorem op_ge : OpR X (compareOp .GtE) (rI0 fun i j => .bl (decide (j ≤ i))) := opB0 fun _ _ _ _ _ _ _ q => ge_int q
theorem op_in_str : OpR X (compareOp .In) (fun x y H Q => ∃ i j, x = .str i ∧ y = .str j ∧ Q (.bl (!(Builtin.Str.occurrences j i 0 j.length 1).isEmpty)) H) := by
  intro pins s σ H x y v u Q I rx ry h
  obtain ⟨i, j, rfl, rfl, q⟩ := h
  obtain ⟨t, rfl⟩ := rx
  obtain ⟨t', rfl⟩ := ry
  exact in_str (fin_bl I q rfl)
theorem op_isN : OpR X (compareOp .Is) (fun x y H Q => y = .non ∧ Q (.bl (decide (x = .non))) H) := by
  intro pins s σ H x y v u Q I rx ry h
  obtain ⟨rfl, q⟩ := h
  cases ry
  refine is_none_gen (fin_bl I q ?_)
  cases x <;> first
    | (cases rx; rfl)
    | (obtain ⟨t, rfl⟩ := rx; rfl)
theorem op_notN : OpR X (compareOp .IsNot) (fun x y H Q => y = .non ∧ Q (.bl (!decide (x = .non))) H) := by
  intro pins s σ H x y v u Q I rx ry h
  obtain ⟨rfl, q⟩ := h
  cases ry
  refine isnot_none_gen (fin_bl I q ?_)
  cases x <;> first
    | (cases rx; rfl)
    | (obtain ⟨t, rfl⟩ := rx; rfl)
theorem op_notin_str : OpR X (compareOp .NotIn) (fun x y H Q => ∃ i j, x = .str i ∧ y = .str j ∧ Q (.bl (!(!(Builtin.Str.occurrences j i 0 j.length 1).isEmpty))) H) := by
  intro pins s σ H x y v u Q I rx ry h
  obtain ⟨i, j, rfl, rfl, q⟩ := h
  obtain ⟨t, rfl⟩ := rx
  obtain ⟨t', rfl⟩ := ry
  exact notIn_str (fin_bl I q rfl)
def isObj : HO → Bool
  | .lst _ => true
  | .ins _ _ _ => true
  | _ => false
theorem nomark (b : Expr) {op : CmpOp} (h : op ≠ .In := by decide) (h2 : op ≠ .NotIn := by decide) : behindInMarks op b = false := by
  have e1 : (op == CmpOp.In) = false := by cases op <;> first | rfl | exact absurd rfl h
  have e2 : (op == CmpOp.NotIn) = false := by cases op <;> first | rfl | exact absurd rfl h2
  cases b <;> simp [behindInMarks, e1, e2]
theorem pe_cmpR {op : CmpOp} {r : R2} (ho : OpR X (compareOp op) r) (ha : PE X a ta) (hb : PE X b tb) (hm : behindInMarks op b = false) : PE X (.Compare a [op] [b] pos) (tOp r ta tb) := by
  intro pins s σ H Q I h
  exact wpAny_Compare1 (binT ha hb I h fun v u s2 x y H2 I2 rx ry q => ho pins s2 σ H2 x y v u Q I2 rx ry q) hm
def tTest (t : TE) : TT := fun σ H Q => t σ H fun x H' => ∃ k, x = .bl k ∧ Q k H'
theorem pt_cmpR {op : CmpOp} {r : R2} (ho : OpR X (compareOp op) r) (ha : PE X a ta) (hb : PE X b tb) (hm : behindInMarks op b = false) : PT X (.Compare a [op] [b] pos) (tTest (tOp r ta tb)) := by
  intro pins s σ H Q I h
  refine wpAny_isTrue_Compare1 (thn (ha pins s σ H _ I h) fun v s1 ⟨x, H1, I1, r1, q1⟩ => thn (hb pins s1 σ H1 _ I1 q1) fun u s2 ⟨y, H2, I2, r2, q2⟩ =>
    thn (ho pins s2 σ H2 x y v u _ I2 r1 r2 q2) fun c s3 ⟨z, H3, I3, r3, k, e, q3⟩ => ?_) hm
  subst e
  cases r3
  exact wpAny_truthy_bool ⟨H3, I3, q3⟩
def tChain (r r' : R2) (ta tb tc : TE) : TE := fun σ H Q => ta σ H fun x H1 => tb σ H1 fun y H2 => r x y H2 fun z H3 => ∃ k, z = .bl k ∧
  (if k = true then tc σ H3 fun w' H4 => r' y w' H4 Q else Q (.bl false) H3)
theorem pe_chain {op op' : CmpOp} {r r' : R2} (ho : OpR X (compareOp op) r) (ho' : OpR X (compareOp op') r') (ha : PE X a ta) (hb : PE X b tb) (hc : PE X c tc)
    (hm : lastMarks [op, op'] [b, c] = false := by with_unfolding_all rfl) : PE X (.Compare a [op, op'] [b, c] pos) (tChain r r' ta tb tc) := by
  intro pins s σ H Q I h
  refine Compare_chain (thn (ha pins s σ H _ I h) fun v s1 ⟨x, H1, I1, r1, q1⟩ => chain_link (thn (hb pins s1 σ H1 _ I1 q1) fun u s2 ⟨y, H2, I2, r2, q2⟩ =>
    thn (ho pins s2 σ H2 x y v u _ I2 r1 r2 q2) fun d s3 ⟨z, H3, I3, r3, k, e, q3⟩ => ?_)) hm
  subst e
  cases r3
  refine wpAny_truthy_bool ?_
  cases k with
  | false => exact ite_ff ⟨.bl false, H3, I3, rfl, q3⟩
  | true => exact ite_tt (chain_last (thn (hc pins s3 σ H3 _ I3 q3) fun w' s4 ⟨z', H4, I4, r4, q4⟩ => ho' pins s4 σ H4 y z' u w' Q I4 r2 r4 q4))
theorem pt_chain {op op' : CmpOp} {r r' : R2} (ho : OpR X (compareOp op) r) (ho' : OpR X (compareOp op') r') (ha : PE X a ta) (hb : PE X b tb) (hc : PE X c tc)
    (hm : lastMarks [op, op'] [b, c] = false := by with_unfolding_all rfl) : PT X (.Compare a [op, op'] [b, c] pos) (tTest (tChain r r' ta tb tc)) := by
  intro pins s σ H Q I h
  refine isTrue_chain (thn (ha pins s σ H _ I h) fun v s1 ⟨x, H1, I1, r1, q1⟩ => test_link (thn (hb pins s1 σ H1 _ I1 q1) fun u s2 ⟨y, H2, I2, r2, q2⟩ =>
    thn (ho pins s2 σ H2 x y v u _ I2 r1 r2 q2) fun d s3 ⟨z, H3, I3, r3, k, e, q3⟩ => ?_)) hm
  subst e
  cases r3
  refine wpAny_truthy_bool ?_
  cases k with
  | false =>
    obtain ⟨k', e', q'⟩ := q3
    cases e'
    exact ite_ff ⟨H3, I3, q'⟩
  | true =>
    refine ite_tt (test_last (thn (hc pins s3 σ H3 _ I3 q3) fun w' s4 ⟨z', H4, I4, r4, q4⟩ => thn (ho' pins s4 σ H4 y z' u w' _ I4 r2 r4 q4) fun d' s5 ⟨z2, H5, I5, r5, k2, e2, q5⟩ => ?_))
    subst e2
    cases r5
    exact wpAny_truthy_bool ⟨H5, I5, q5⟩
def TruV (K : PySem.W.Frag) (x : V) (H : Hp) (k : Bool) : Prop :=
  match x with
  | .non => k = false
  | .bl b => k = b
  | .int i => k = (i != 0)
  | .str y => y.length ≤ sizeLine ∧ k = ((y.length : Int) != 0)
  | .byt y => y.size ≤ sizeLine ∧ k = ((y.size : Int) != 0)
  | .ref p => (∃ xs, SqL K H p xs ∧ k = !xs.isEmpty) ∨ (∃ xs, SqT K H p xs ∧ k = !xs.isEmpty) ∨ ∃ kvs, H p = some (.dK kvs) ∧ k = !kvs.isEmpty
  | _ => False
theorem isEmpty_kv {κ : Type} {kvs : List (κ × V)} {vs : List (κ × Value)} (r : KV kvs vs) : (!vs.isEmpty) = !kvs.isEmpty := by
  cases r <;> rfl
theorem isEmpty_of {xs : List V} {its : List Value} (r : Vals xs its) : (!its.toArray.isEmpty) = !xs.isEmpty := by
  cases r <;> simp
theorem line63 : (sizeLine : Nat) < 2 ^ 63 := by rw [sizeLine_eq]; decide
theorem tru_ok : TruR X (fun x H Q => ∃ k, TruV X.K x H k ∧ Q k H) := by
  intro pins s σ H x v Q I rx h
  obtain ⟨k, e, q⟩ := h
  have hl := line63
  have hs : sizeLine = 16777216 := sizeLine_eq
  cases x with
  | non =>
    cases rx
    have e' : k = false := e
    subst e'
    exact truthy_none ⟨H, I, q⟩
  | bl b =>
    cases rx
    have e' : k = b := e
    subst e'
    exact wpAny_truthy_bool ⟨H, I, q⟩
  | int i =>
    obtain ⟨t, rfl⟩ := rx
    have e' : k = (i != 0) := e
    subst e'
    exact PySem.P.truthy_int ⟨H, I, q⟩
  | str y =>
    obtain ⟨t, rfl⟩ := rx
    obtain ⟨hy, e'⟩ : y.length ≤ sizeLine ∧ k = ((y.length : Int) != 0) := e
    subst e'
    exact PySem.P.truthy_str (by omega) ⟨H, I.tok _, q⟩
  | byt y =>
    obtain ⟨t, rfl⟩ := rx
    obtain ⟨hy, e'⟩ : y.size ≤ sizeLine ∧ k = ((y.size : Int) != 0) := e
    subst e'
    exact PySem.W.truthy_bytes (by omega) ⟨H, I.tok _, q⟩
  | ref p =>
    cases rx
    have e' : (∃ xs, SqL X.K H p xs ∧ k = !xs.isEmpty) ∨ (∃ xs, SqT X.K H p xs ∧ k = !xs.isEmpty) ∨ ∃ kvs, H p = some (.dK kvs) ∧ k = !kvs.isEmpty := e
    rcases e' with ⟨xs, hx, e'⟩ | ⟨xs, hx, e'⟩ | ⟨kvs, hx, e'⟩
    · subst e'
      obtain ⟨its, r, pl, hz⟩ := I.list hx
      have hlen := r.length
      exact wpAny_truthy_list pl.isList (by simp only [List.size_toArray]; omega) ⟨H, I.tok _, by rw [isEmpty_of r]; exact q⟩
    · subst e'
      obtain ⟨its, r, pl, hz⟩ := I.tuple hx
      have hlen := r.length
      exact truthy_tuple pl (by simp only [List.size_toArray]; omega) ⟨H, I.tok _, by rw [isEmpty_of r]; exact q⟩
    · subst e'
      obtain ⟨hz, hS, vs, r, m⟩ : kvs.length ≤ sizeLine ∧ (p == sysModules) = false ∧ ∃ vs, KV kvs vs ∧ s.heap.DictOf (mixKind X.prog X.w) p vs := I.hok p _ hx
      have hlen : kvs.length = vs.length := Paired.length r
      exact wpAny_truthy_dict hS m (by omega) ⟨H, I.tok _, by rw [isEmpty_kv r]; exact q⟩
  | _ => exact (show False from e).elim
theorem pt_truth (ha : PE X a ta) (he : ∀ whole, isTrue a X.env whole = (do let v ← whole; standAt a.pos; holding [v] (truthy v))) :
    PT X a (fun σ H Q => ta σ H fun x H' => ∃ k, TruV X.K x H' k ∧ Q k H') := by
  intro pins s σ H Q I h
  exact isTrue_plain (thn (ha pins s σ H _ I h) fun v s1 ⟨x, H1, I1, r1, q1⟩ => tru_ok pins s1 σ H1 x v Q I1 r1 q1) (he _)
theorem op_add_str : OpR X (binaryOp .Add) (fun x y H Q => ∃ i j, x = .str i ∧ y = .str j ∧ i.length + j.length ≤ sizeLine ∧ Q (.str (i ++ j)) H) := by
  intro pins s σ H x y v u Q I rx ry h
  obtain ⟨i, j, rfl, rfl, hz, q⟩ := h
  obtain ⟨t, rfl⟩ := rx
  obtain ⟨t', rfl⟩ := ry
  exact add_str (fun t' tk => ⟨.str (i ++ j), H, I.tok _, ⟨_, rfl⟩, q⟩) hz
def PlainIxT (b : Expr) : Prop := ∀ o i, subscripted b false o i = operate [o, i] (getItem o i)
theorem vals1 {x : V} {us : List Value} (r : Vals [x] us) : ∃ u, us = [u] ∧ RelV x u := by
  cases r with
  | cons r1 r2 => cases r2; exact ⟨_, rfl, r1⟩
theorem vals2 {x y : V} {us : List Value} (r : Vals [x, y] us) : ∃ u w', us = [u, w'] ∧ RelV x u ∧ RelV y w' := by
  cases r with
  | cons r1 r2 =>
    cases r2 with
    | cons r3 r4 => cases r4; exact ⟨_, _, rfl, r1, r3⟩
def LenV (K : PySem.W.Frag) (x : V) (H : Hp) (n : Nat) : Prop :=
  match x with
  | .str y => y.length ≤ sizeLine ∧ n = y.length
  | .byt y => y.size ≤ sizeLine ∧ n = y.size
  | .ref p => (∃ xs, SqL K H p xs ∧ n = xs.length) ∨ ∃ xs, SqT K H p xs ∧ n = xs.length
  | _ => False
end
end L2
namespace L2
open PySem PySem.Spec PyProof.Rows
structure ObjM (h : Heap) (x dx C : Addr) (mA : Str → Option Value) : Prop where
  obj : h.get? x = some (PySem.W.instObj C dx)
  ns : h.Ns1 dx mA
  ne : dx ≠ x
theorem lookIn_ns {h : Heap} {dx : Addr} {mA : Str → Option Value} (n : h.Ns1 dx mA) : ∃ od, h.get? dx = some od ∧ ∀ name, PySem.W.lookIn name od = some (mA name) := by
  obtain ⟨o, es, ep, ho, hd, hk, _, hm⟩ := n
  refine ⟨o, ho, fun name => ?_⟩
  have e := hm name
  unfold nsFind findBy at e
  rw [← Array.find?_toList] at e
  unfold PySem.W.lookIn
  rw [hd]
  dsimp only
  split
  · rename_i y q
    rw [q] at e
    exact congrArg some e
  · rename_i q
    rw [q] at e
    have a : es.toList.any (·.refKey) = false := by
      rw [List.any_eq_false]
      intro y hy
      obtain ⟨z, t, hkey⟩ := hk y (Array.mem_toList_iff.mp hy)
      simp [DictEntry.refKey, hkey]
    have a' : ¬ es.toList.any (·.refKey) = true := by rw [a]; exact Bool.false_ne_true
    rw [if_neg a']
    exact congrArg some e
theorem ObjM.look {h : Heap} {x dx C : Addr} {mA : Str → Option Value} (I : ObjM h x dx C mA) : ∃ od, PySem.W.InstAt h x (PySem.W.instObj C dx) C (some od) ∧ ∀ name, PySem.W.lookIn name od = some (mA name) :=
  let ⟨od, ho, hl⟩ := lookIn_ns I.ns
  ⟨od, ⟨I.obj, rfl, rfl, ho⟩, hl⟩
section
variable {prog : Program} {w : World} {A : Around} {E : Value → Shared → Prop} {s : Shared} {K : PySem.W.Frag} {x dx C f : Addr} {mA : Str → Option Value} {name : Str} {v : Value}
end
def putF (f : Str) (v : V) : List (Str × V) → List (Str × V)
  | [] => [(f, v)]
  | (g, x) :: r => if g = f then (g, v) :: r else (g, x) :: putF f v r
section
variable {P : Program} {w : World} {H H' : Hp} {h h' : Heap} {a C dx : Addr} {fs fs' : List (Str × V)}
theorem ins_get (hok : HOk P w H h) (e : H a = some (.ins C dx fs)) : ∃ mA, ObjM h a dx C mA ∧ (∀ f, RelO (fs.lookup f) (mA f)) ∧ PySem.Within mA (fs.map (·.1)) ∧ fs.length ≤ 1000 ∧ H dx = some (.own a) := by
  obtain ⟨d, z, ne, ob, mA, n, r, q⟩ := (show ObjOk P w H h a (.ins C dx fs) from hok a _ e)
  exact ⟨mA, ⟨ob, n, ne⟩, r, q, z, d⟩
end
structure Cls (K : PySem.W.Frag) (C : Addr) : Prop where
  pg : PySem.W.plainGet K C Str.empty = true
  hd : PySem.W.hasDictIn K C = true
  po : PySem.W.plainOver K C = true
  sa : PySem.W.findIn K (.ref C) "__setattr__" = some (some (.builtin "object.__setattr__"))
theorem Cls.get {K : PySem.W.Frag} {C : Addr} (c : Cls K C) (f : Str) : PySem.W.plainGet K C f = true := c.pg
def NoAttr (K : PySem.W.Frag) (C : Addr) (f : Str) : Prop := PySem.W.findIn K (.ref C) f = some none
structure Con (K : PySem.W.Frag) (C : Addr) (f : Str) (v : V) (u : Value) : Prop where
  at_ : PySem.W.findIn K (.ref C) f = some (some u)
  rel : RelV v u
  get : PySem.W.specialIn K u "__get__" = some none
  cp : PySem.W.copiedNames.contains f = false
structure Meth (K : PySem.W.Frag) (C : Addr) (m : Str) (f : Addr) : Prop where
  at_ : PySem.W.findIn K (.ref C) m = some (some (.ref f))
  fn : PySem.W.isFn K (.ref f) = true
  kp : PySem.W.keepIn K (.ref f) = true
section
variable {X : Cx} {pins : List (Addr × Obj)} {σ : St} {H : Hp} {s : Shared} {a C dx : Addr} {fs : List (Str × V)} {f : Str} {v : V} {A : Around} {E : Value → Shared → Prop}
end
def tFld (K : PySem.W.Frag) (ta : TE) (f : Str) : TE := fun σ H Q => ta σ H fun x H1 => ∃ a C dx fs v, x = .ref a ∧ H1 a = some (.ins C dx fs) ∧ Cls K C ∧ NoAttr K C f ∧ fs.lookup f = some v ∧ Q v H1
def tCon (K : PySem.W.Frag) (ta : TE) (f : Str) : TE := fun σ H Q => ta σ H fun x H1 => ∃ a C dx fs v u, x = .ref a ∧ H1 a = some (.ins C dx fs) ∧ Cls K C ∧ Con K C f v u ∧ fs.lookup f = none ∧ Q v H1
def sFld (K : PySem.W.Frag) (ta tv : TE) (f : Str) : TS := fun D σ H => tv σ H fun y H1 => ta σ H1 fun x H2 => ∃ a C dx fs, x = .ref a ∧ H2 a = some (.ins C dx fs) ∧ Cls K C ∧ NoAttr K C f ∧ fs.length < 1000 ∧
  D.nx σ (upd H2 a (.ins C dx (putF f y fs)))
def InOp (X : Cx) (op : Operator) (rd : V → V → Hp → VK → Prop) : Prop :=
  ∀ (pins : List (Addr × Obj)) (s : Shared) (σ : St) (H : Hp) (x y : V) (u v : Value) (Q : VK), Inv X pins σ H s → RelV x u → RelV y v → rd x y H Q → wpAny (model X.prog X.w) X.A (inplaceOp op u v) (EP X pins σ Q) X.xe s
def sFldAug (K : PySem.W.Frag) (ta tv : TE) (rd : V → V → Hp → VK → Prop) (f : Str) : TS := fun D σ H => ta σ H fun x H1 => ∃ a C dx fs v, x = .ref a ∧ H1 a = some (.ins C dx fs) ∧ Cls K C ∧ NoAttr K C f ∧ fs.lookup f = some v ∧
  tv σ H1 fun y H2 => rd v y H2 fun z H3 => ∃ dx' fs', H3 a = some (.ins C dx' fs') ∧ fs'.length < 1000 ∧ D.nx σ (upd H3 a (.ins C dx' (putF f z fs')))
section
variable {X : Cx} {o e value : Expr} {f : Str} {pos pos' tpos : Pos} {ta tv : TE}
def rAdd : V → V → Hp → VK → Prop := fun x y H Q => ∃ i j, x = .int i ∧ y = .int j ∧ Q (.int (i + j)) H
def rSub : V → V → Hp → VK → Prop := fun x y H Q => ∃ i j, x = .int i ∧ y = .int j ∧ Q (.int (i - j)) H
end
section
variable {X : Cx} {pins : List (Addr × Obj)} {σ : St} {H : Hp} {s : Shared} {A : Around} {E : Value → Shared → Prop} {Q : Value → Shared → Prop} {c : Value} {b : Bool}
inductive TyOf (K : PySem.W.Frag) (H : Hp) : V → Value → Prop where
  | non : TyOf K H .non (.type "NoneType")
  | bl (x : Bool) : TyOf K H (.bl x) (.type "bool")
  | int (i : Int) : TyOf K H (.int i) (.type "int")
  | str (x : Str) : TyOf K H (.str x) (.type "str")
  | flt (x : UInt64) : TyOf K H (.flt x) (.type "float")
  | lst {a : Addr} {xs : List V} (e : H a = some (.lst xs)) : TyOf K H (.ref a) (.type "list")
  | frz {a : Addr} {o : Obj} {xs : List V} (e : H a = some (.frz o (.lst xs))) : TyOf K H (.ref a) (.type "list")
  | tup {a : Addr} {xs : List V} (e : H a = some (.tup xs)) : TyOf K H (.ref a) (.type "tuple")
  | dK {a : Addr} {kvs : List (Key × V)} (e : H a = some (.dK kvs)) : TyOf K H (.ref a) (.type "dict")
  | dT {a : Addr} {kvs : List (List Key × V)} (e : H a = some (.dT kvs)) : TyOf K H (.ref a) (.type "dict")
  | ins {a C dx : Addr} {fs : List (Str × V)} (e : H a = some (.ins C dx fs)) (cl : Cls K C) (ha : PySem.W.findIn K (.ref C) "__class__" = some (some (.builtin "object.__class__")))
      (hn : PySem.W.specialIn K (.builtin "object.__class__") "__get__" = some (some (.builtin "getset_descriptor.__get__"))) (htk : PySem.W.takesIn K (.builtin "object.__class__") = some true)
      (hm : PySem.W.mroIn K C (.type "object") = some true) : TyOf K H (.ref a) (.ref C)
theorem isinst_ok {x : V} {u t : Value} (I : Inv X pins σ H s) (rx : RelV x u) (ty : TyOf X.K H x t) (e : PySem.W.kitOne X.K t c = some b) (h : ∀ tk, Q (.bool b) { s with toks := tk }) :
    wpAny (model X.prog X.w) A (call (.builtin "isinstance") [u, c]) Q E s := by
  cases ty with
  | non => cases (show u = Value.none from rx); exact PySem.W.kia_one PySem.W.kitx_none I.kIn True.intro e (fun z => nomatch z) h
  | bl y => cases (show u = Value.bool y from rx); exact PySem.W.kia_one PySem.W.kitx_bool I.kIn True.intro e (fun z => nomatch z) h
  | int i => obtain ⟨t, q⟩ := (show ∃ t, u = Value.int i t from rx); cases q; exact PySem.W.kia_one PySem.W.kitx_int I.kIn True.intro e (fun z => nomatch z) h
  | str y => obtain ⟨t, q⟩ := (show ∃ t, u = Value.str y t from rx); cases q; exact PySem.W.kia_one PySem.W.kitx_str I.kIn True.intro e (fun z => nomatch z) h
  | flt y => obtain ⟨t, q⟩ := (show ∃ t, u = Value.float y t from rx); cases q; exact PySem.W.kia_one PySem.W.kitx_float I.kIn True.intro e (fun z => nomatch z) h
  | @lst a xs ea =>
    cases (show u = Value.ref a from rx)
    obtain ⟨_, _, n, _, h1⟩ := (show ObjOk X.prog X.w H s.heap a (.lst xs) from I.hok a _ ea)
    exact PySem.W.kia_one PySem.W.kitx_list I.kIn ⟨_, h1, rfl⟩ e (fun z => nomatch z) h
  | @frz a ob xs ea =>
    cases (show u = Value.ref a from rx)
    obtain ⟨_, _, _, n, _, h1⟩ := (show ObjOk X.prog X.w H s.heap a (.frz ob (.lst xs)) from I.hok a _ ea)
    exact PySem.W.kia_one PySem.W.kitx_list I.kIn ⟨_, h1, rfl⟩ e (fun z => nomatch z) h
  | @tup a xs ea =>
    cases (show u = Value.ref a from rx)
    obtain ⟨_, _, _, p⟩ := (show ObjOk X.prog X.w H s.heap a (.tup xs) from I.hok a _ ea)
    obtain ⟨o, h1, h2, _⟩ := p
    exact PySem.W.kia_one PySem.W.kitx_tuple I.kIn ⟨o, h1, h2⟩ e (fun z => nomatch z) h
  | @dK a kvs ea =>
    cases (show u = Value.ref a from rx)
    obtain ⟨_, _, vs, _, p⟩ := (show ObjOk X.prog X.w H s.heap a (.dK kvs) from I.hok a _ ea)
    obtain ⟨o, es, ep, h1, h2, _⟩ := p
    exact PySem.W.kia_one PySem.W.kitx_dict I.kIn ⟨o, h1, h2.1⟩ e (fun z => nomatch z) h
  | @dT a kvs ea =>
    cases (show u = Value.ref a from rx)
    obtain ⟨_, _, xs, _, o, es, ep, h1, h2, _⟩ := (show ObjOk X.prog X.w H s.heap a (.dT kvs) from I.hok a _ ea)
    exact PySem.W.kia_one PySem.W.kitx_dict I.kIn ⟨o, h1, h2.1⟩ e (fun z => nomatch z) h
  | @ins a C dx fs ea cl ha hn htk hm =>
    cases (show u = Value.ref a from rx)
    obtain ⟨mA, O, _⟩ := ins_get I.hok ea
    obtain ⟨od, J, _⟩ := O.look
    exact PySem.W.kia_one (PySem.W.kitx_own (cl.get _) cl.hd ha hn htk hm) I.kIn J e (fun z => nomatch z) h
end
end L2
namespace L2
open PySem PySem.Spec PyProof.Rows
structure Room (k : Nat) (A : Around) : Prop where
  hd : A.handled = none
  dp : A.depth + 3 * k + 5 < recursionLimit
  un : A.units + 16 * k + 200 < cLine
  gd : A.guards = some []
theorem Room.mono {j k : Nat} {A : Around} (r : Room k A) (h : j ≤ k) : Room j A := ⟨r.hd, by have := r.dp; omega, by have := r.un; omega, r.gd⟩
theorem Room.deeper {k : Nat} {A : Around} (r : Room (k + 1) A) (env : Env) : Room k (A.deeper env) :=
  ⟨r.hd, by have := r.dp; show A.depth + 1 + 3 * k + 5 < _; omega, by have := r.un; show A.units + 3 + 16 * k + 200 < _; omega, r.gd⟩
theorem Room.in1 {k : Nat} {A : Around} (r : Room (k + 1) A) : Room k A.in1 :=
  ⟨r.hd, by have := r.dp; show A.depth + 3 * k + 5 < _; omega, by have := r.un; show A.units + 1 + 16 * k + 200 < _; omega, r.gd⟩
theorem Room.depth {k : Nat} {A : Around} (r : Room k A) : A.depth < recursionLimit := by have := r.dp; omega
theorem Room.units {k : Nat} {A : Around} (r : Room k A) : A.units + 64 < cLine := by have := r.un; omega
theorem Room.units0 {k : Nat} {A : Around} (r : Room k A) : A.units < cLine := by have := r.un; omega
def tNil : TA := fun _ H Q => Q [] H
def tCons (ta : TE) (tr : TA) : TA := fun σ H Q => ta σ H fun x H1 => tr σ H1 fun xs H2 => Q (x :: xs) H2
section
variable {X : Cx} {e : Expr} {es : List Expr} {te : TE} {t : TA} {pos : Pos}
theorem pa_nil : PA X [] tNil := fun _ _ _ _ H Q I h => Calls.spliced_nil ⟨[], H, I, .nil, h⟩
theorem pa_cons (ha : PE X e te) (hr : PA X es t) (hs : starEach (e :: es) X.env = (false, eval e X.env) :: starEach es X.env := by rfl) : PA X (e :: es) (tCons te t) := by
  intro pos pins s σ H Q I h
  rw [hs]
  show wpAny _ _ (spliced ((false, eval e X.env) :: backTo pos (starEach es X.env))) _ _ s
  refine Calls.spliced_cons (thn (ha pins s σ H _ I h) fun u s1 ⟨x, H1, I1, r1, q1⟩ => ?_)
  exact thn (hr pos pins s1 σ H1 _ I1 q1) fun us s2 ⟨xs, H2, I2, r2, q2⟩ => ⟨x :: xs, H2, I2, .cons r1 r2, q2⟩
def tTup (t : TA) : TE := fun σ H Q => t σ H fun xs H1 => xs.length ≤ sizeLine ∧ ∀ p, H1 p = none → Q (.ref p) (upd H1 p (.tup xs))
def tLst (t : TA) : TE := fun σ H Q => t σ H fun xs H1 => xs.length ≤ sizeLine ∧ ∀ p, H1 p = none → Q (.ref p) (upd H1 p (.lst xs))
theorem pe_tup {x1} (h : PA X es t) : PE X (.Tuple es x1 pos) (tTup t) := by
  intro pins s σ H Q I hq
  refine wpAny_Tuple_spliced (thn (h pos pins s σ H _ I hq) fun us s1 ⟨xs, H1, I1, r, z, q⟩ => ⟨by rw [← r.length]; exact z, ?_⟩)
  have hf : H1 s1.heap.objs.size = none := I1.hok.fresh (Nat.le_refl _)
  refine ⟨.ref s1.heap.objs.size, upd H1 s1.heap.objs.size (.tup xs), I1.laid (t' := s1.toks) (fun b u e => Heap.get?_push_of_some _ e) (Nat.le_refl _) ?_, rfl, q _ hf⟩
  exact ⟨z, us, r, ⟨_, Heap.get?_push_size _ rfl, rfl, ⟨_, rfl⟩, rfl⟩⟩
theorem pe_lst (h : PA X es t) : PE X (.List es pos) (tLst t) := by
  intro pins s σ H Q I hq
  refine wpAny_List_spliced (thn (h pos pins s σ H _ I hq) fun us s1 ⟨xs, H1, I1, r, z, q⟩ => ⟨by rw [← r.length]; exact z, ?_⟩)
  have hf : H1 s1.heap.objs.size = none := I1.hok.fresh (Nat.le_refl _)
  refine ⟨.ref s1.heap.objs.size, upd H1 s1.heap.objs.size (.lst xs), I1.laid (t' := s1.toks) (fun b u e => Heap.get?_push_of_some _ e) (Nat.le_refl _) ?_, rfl, q _ hf⟩
  exact ⟨z, us, 0, r, Heap.get?_push_size _ rfl⟩
end
abbrev Sp := List V → Hp → VK → XK → Prop
abbrev CXT := List Env → Hp → Shared → XK → Value → Shared → Prop
structure Env0 (P : Program) (w : World) (K : PySem.W.Frag) (mg : Str → Option Value) (base : Heap) (A : Around) (outer : List Env) (s : Shared) (H : Hp) : Prop where
  frames : A.frames = some outer
  mod : Mod K mg base
  bs : ∀ b o, base.get? b = some o → s.heap.get? b = some o ∧ H b = none
  bsz : base.objs.size ≤ s.heap.objs.size
  funs : s.heap.FunFrames base outer
  frf : ∀ b ∈ frs outer, H b = none
  hok : HOk P w H s.heap
  bare : AllBare s.gens
def CE (outer : List Env) (P : Program) (w : World) (H : Hp) (s : Shared) (Q : VK) (u : Value) (s' : Shared) : Prop :=
  ∃ v H', s'.os = s.os ∧ AllBare s'.gens ∧ Un (frs outer) [] H H' s.heap s'.heap ∧ HOk P w H' s'.heap ∧ RelV v u ∧ Q v H'
def CR (CX : CXT) (outer : List Env) (P : Program) (w : World) (H : Hp) (s : Shared) (Q : VK) (E : XK) (r : Result) (s' : Shared) : Prop :=
  match r with
  | .ok (.ret u) => CE outer P w H s Q u s'
  | .ok _ => False
  | .error e => CX outer H s E e s'
structure FnOk (P : Program) (w : World) (K : PySem.W.Frag) (mg : Str → Option Value) (base : Heap) (CX : CXT) (k : Nat) (f : Addr) (fd : FuncData) (ps : List Str) (sp : Sp) : Prop where
  len : ∀ vs H Q E, sp vs H Q E → vs.length = ps.length
  run : ∀ (A : Around) (outer : List Env) (s : Shared) (H : Hp) (args : Args) (us : List Value) (vs : List V) (Q : VK) (E : XK), Room k A → Env0 P w K mg base A outer s H → BindsTo s fd args (ps.zip us) → Vals vs us → sp vs H Q E →
    codeAny (model P w) A (.call (.ref f) args) (CR CX outer P w H s Q E) s
theorem FnOk.mono {P : Program} {w : World} {K : PySem.W.Frag} {mg : Str → Option Value} {base : Heap} {CX : CXT} {j k : Nat} {f : Addr} {fd : FuncData} {ps : List Str} {sp : Sp} (F : FnOk P w K mg base CX j f fd ps sp) (h : j ≤ k) :
    FnOk P w K mg base CX k f fd ps sp := ⟨F.len, fun A outer s H args us vs Q E hr => F.run A outer s H args us vs Q E (hr.mono h)⟩
theorem FnOk.imp {P : Program} {w : World} {K : PySem.W.Frag} {mg : Str → Option Value} {base : Heap} {CX : CXT} {k : Nat} {f : Addr} {fd : FuncData} {ps : List Str} {sp sp' : Sp} (F : FnOk P w K mg base CX k f fd ps sp)
    (h : ∀ vs H Q E, sp' vs H Q E → sp vs H Q E) : FnOk P w K mg base CX k f fd ps sp' :=
  ⟨fun vs H Q E q => F.len vs H Q E (h _ _ _ _ q), fun A outer s H args us vs Q E hr he hb hv hs => F.run A outer s H args us vs Q E hr he hb hv (h _ _ _ _ hs)⟩
theorem Env0.in1 {P : Program} {w : World} {K : PySem.W.Frag} {mg : Str → Option Value} {base : Heap} {A : Around} {outer : List Env} {s : Shared} {H : Hp} (e : Env0 P w K mg base A outer s H) :
    Env0 P w K mg base A.in1 outer s H := ⟨e.frames, e.mod, e.bs, e.bsz, e.funs, e.frf, e.hok, e.bare⟩
section
variable {X : Cx} {pins : List (Addr × Obj)} {σ : St} {H : Hp} {s s' : Shared}
theorem Inv.env0 (I : Inv X pins σ H s) : Env0 X.prog X.w X.K X.mg X.base X.A X.stack s H :=
  ⟨I.ok.frames, I.ok.mod, I.bs, Nat.le_trans I.ok.bsz I.sz, I.stack, I.stkFree, I.hok, I.bare⟩
theorem Inv.after {Q : VK} {u : Value} (I : Inv X pins σ H s) (h : CE X.stack X.prog X.w H s Q u s') : EP X pins σ Q u s' := by
  obtain ⟨v, H', os, bare, un, hok, r, q⟩ := h
  obtain ⟨hh, g, d, t, os'⟩ := s'
  obtain rfl : os' = s.os := os
  exact ⟨v, H', I.call (h' := hh) (g' := g) (d' := d) (t' := t) (ch := []) un hok bare (fun b z => absurd z (by simp)), r, q⟩
end
def tCall (sp : Sp) (dvs : List V) (E : XK) (t : TA) : TE := fun σ H Q => t σ H fun vs H1 => sp (vs ++ dvs) H1 Q E
def tMeth (C : Addr) (m : Str) (sp : Sp) (dvs : List V) (E : XK) (ta : TE) (t : TA) : TE := fun σ H Q => ta σ H fun x H1 => ∃ a dx fs, x = .ref a ∧ H1 a = some (.ins C dx fs) ∧ fs.lookup m = none ∧
  t σ H1 fun vs H2 => sp (x :: (vs ++ dvs)) H2 Q E
def tMake (C : Addr) (sp : Sp) (dvs : List V) (E : XK) (t : TA) : TE := fun σ H Q => t σ H fun vs H1 => ∀ x dx, H1 x = none → H1 dx = none → dx ≠ x →
  sp (.ref x :: (vs ++ dvs)) (upd (upd H1 dx (.own x)) x (.ins C dx [])) (fun v H2 => v = .non ∧ Q (.ref x) H2) E
def Binds (K : PySem.W.Frag) (fd : FuncData) (ps : List Str) (ds : List Value) : Prop :=
  ∀ (s : Shared) (us : List Value), K.In s.heap → (us ++ ds).length = ps.length → BindsTo s fd ⟨us, []⟩ (ps.zip (us ++ ds))
theorem Binds.all {K : PySem.W.Frag} {fd : FuncData} {ps : List Str} (h : ∀ us : List Value, us.length = ps.length → bindArgs fd ⟨us, []⟩ = pure (ps.zip us)) : Binds K fd ps [] := fun s us _ hl => by
  rw [List.append_nil] at hl ⊢
  exact .of_eq (h us hl)
def Passes (CX : CXT) (X : Cx) (E : XK) : Prop := ∀ (pins : List (Addr × Obj)) (σ : St) (H : Hp) (s : Shared) (e : Value) (s' : Shared), Inv X pins σ H s → CX X.stack H s E e s' → X.xe e s'
section
variable {X : Cx} {CX : CXT} {k : Nat} {f C : Addr} {fd : FuncData} {ps : List Str} {sp : Sp} {dvs : List V} {ds : List Value} {E : XK} {x m : Str} {p pos apos : Pos} {e o : Expr} {es : List Expr} {ta : TE} {t : TA}
theorem run_fn {pins : List (Addr × Obj)} {σ : St} {H : Hp} {s : Shared} {Q : VK} {us : List Value} {vs : List V} (F : FnOk X.prog X.w X.K X.mg X.base CX k f fd ps sp) (hr : Room k X.A) (hb : Binds X.K fd ps ds) (hd : Vals dvs ds) (hx : Passes CX X E)
    (I : Inv X pins σ H s) (r : Vals vs us) (h : sp (vs ++ dvs) H Q E) : wpAny (model X.prog X.w) X.A (call (.ref f) us) (EP X pins σ Q) X.xe s := by
  have r2 : Vals (vs ++ dvs) (us ++ ds) := r.append hd
  have hl : (us ++ ds).length = ps.length := by rw [← r2.length]; exact F.len _ _ _ _ h
  refine wpAny_call (codeAny_mono (F.run X.A X.stack s H ⟨us, []⟩ (us ++ ds) (vs ++ dvs) Q E hr I.env0 (hb s us I.kIn hl) r2 h) fun r s' hq => ?_)
  cases r with
  | error e => exact hx pins σ H s e s' I hq
  | ok fl =>
    cases fl with
    | ret u => exact I.after hq
    | next => exact False.elim hq
    | brk => exact False.elim hq
    | cont => exact False.elim hq
theorem pe_call (F : FnOk X.prog X.w X.K X.mg X.base CX k f fd ps sp) (hr : Room k X.A) (hg : Gl X x) (hm : X.mg x = some (.ref f)) (hk : PySem.W.keepIn X.K (.ref f) = true) (hb : Binds X.K fd ps ds) (hd : Vals dvs ds) (hx : Passes CX X E)
    (ha : PA X (e :: es) t) (hdb : (x == ("__debug__" : Str)) = false := by decide) (he : starEach (e :: es) X.env = (false, eval e X.env) :: starEach es X.env := by rfl) (hpl : (backTo pos (starEach es X.env)).any (·.1) = false := by rfl) :
    PE X (.Call (.Name x p) (e :: es) [] pos) (tCall sp dvs E t) := by
  intro pins s σ H Q I h
  refine wpAny_Call_Name_kw (ld_glob I hg hm ?_ hdb)
  refine PySem.W.callWith_K (h₀ := X.base) I.ok.mod.kin hk (thn (ha pos pins s σ H _ I h) fun us s1 ⟨vs, H1, I1, r, q⟩ => ⟨I1.kIn, ?_⟩) he hpl
  exact run_fn F hr hb hd hx I1 r q
structure Mk (K : PySem.W.Frag) (C f : Addr) : Prop where
  makes : PySem.W.makesIn K C = true
  init : PySem.W.findIn K (.ref C) "__init__" = some (some (.ref f))
  fn : PySem.W.isFn K (.ref f) = true
  kp : PySem.W.keepIn K (.ref C) = true
end
def PK (X : Cx) (kws : List Keyword) (t : TA) : Prop :=
  ∀ (pos : Pos) (pins : List (Addr × Obj)) (s : Shared) (σ : St) (H : Hp) (Q : List V → Hp → Prop), Inv X pins σ H s → t σ H Q → wpAny (model X.prog X.w) X.A (evalAll ((backToKw pos (keywordEach kws X.env)).map (·.2))) (AP X pins σ Q) X.xe s
section
variable {X : Cx} {CX : CXT} {k : Nat} {f C : Addr} {fd : FuncData} {ps ks : List Str} {sp : Sp} {E : XK} {x m : Str} {p pos apos kpos : Pos} {e o : Expr} {es : List Expr} {kws : List Keyword} {te ta : TE} {t tk : TA} {nm : Option Str}
structure KBinds (K : PySem.W.Frag) (fd : FuncData) (ps ks : List Str) (g : List Value → List Value → List Value) (gV : List V → List V → List V) : Prop where
  to : ∀ (s : Shared) (us ws : List Value), K.In s.heap → (g us ws).length = ps.length → BindsTo s fd ⟨us, ks.zip ws⟩ (ps.zip (g us ws))
  rel : ∀ {vs : List V} {us : List Value} {zs : List V} {ws : List Value}, Vals vs us → Vals zs ws → Vals (gV vs zs) (g us ws)
def tCallK (sp : Sp) (gV : List V → List V → List V) (E : XK) (t tk : TA) : TE := fun σ H Q => t σ H fun vs H1 => tk σ H1 fun zs H2 => sp (gV vs zs) H2 Q E
variable {g : List Value → List Value → List Value} {gV : List V → List V → List V}
end
structure FnScope (N P : List Str) (sc : Scope) : Prop where
  kind : sc.kind = .function
  co : sc.isCoroutine = false
  gen : sc.isGenerator = false
  nd : N.Nodup
  pre : N.take P.length = P
  par : ∀ x ∈ P, sc.names.lookup x = some .local ∨ sc.names.lookup x = some .cell
  nofree : ∀ y ∈ sc.names, y.2 ≠ .free
theorem bindL_out {kindOf : Str → Option NameKind} {x : Str} : ∀ {binds : List (Str × Value)} {m : Str → Option Value}, (∀ v, (x, v) ∉ binds) → bindL kindOf binds m x = m x
  | [], _, _ => rfl
  | (n, v) :: r, m, h => by
    unfold bindL
    rw [bindL_out fun w hw => h w (List.mem_cons_of_mem _ hw)]
    split
    · have : x ≠ n := by rintro rfl; exact h v List.mem_cons_self
      simp [this]
    · rfl
theorem bindC_out {kindOf : Str → Option NameKind} {x : Str} : ∀ {binds : List (Str × Value)} {m : Str → Option Value}, (∀ v, (x, v) ∉ binds) → bindC kindOf binds m x = m x
  | [], _, _ => rfl
  | (n, v) :: r, m, h => by
    unfold bindC
    rw [bindC_out fun w hw => h w (List.mem_cons_of_mem _ hw)]
    split
    · rfl
    · have : x ≠ n := by rintro rfl; exact h v List.mem_cons_self
      simp [this]
theorem bindL_get {kindOf : Str → Option NameKind} {x : Str} {v : Value} : ∀ {P : List Str} {vs : List Value} {i : Nat} {m : Str → Option Value}, P.Nodup → P[i]? = some x → vs[i]? = some v → kindOf x = some .local →
    bindL kindOf (P.zip vs) m x = some v
  | [], _, _, _, _, h, _, _ => by simp at h
  | _ :: _, [], _, _, _, _, h, _ => by simp at h
  | p :: P, w :: vs, 0, m, nd, h1, h2, hk => by
    simp at h1 h2; subst h1; subst h2
    show bindL kindOf ((p, w) :: P.zip vs) m p = _
    unfold bindL
    rw [bindL_out fun v hv => (List.nodup_cons.mp nd).1 (List.of_mem_zip hv).1, if_pos hk]
    simp
  | p :: P, w :: vs, i + 1, m, nd, h1, h2, hk => by
    show bindL kindOf ((p, w) :: P.zip vs) m x = _
    unfold bindL
    exact bindL_get (i := i) (List.nodup_cons.mp nd).2 (by simpa using h1) (by simpa using h2) hk
theorem bindC_get {kindOf : Str → Option NameKind} {x : Str} {v : Value} : ∀ {P : List Str} {vs : List Value} {i : Nat} {m : Str → Option Value}, P.Nodup → P[i]? = some x → vs[i]? = some v → kindOf x ≠ some .local →
    bindC kindOf (P.zip vs) m x = some v
  | [], _, _, _, _, h, _, _ => by simp at h
  | _ :: _, [], _, _, _, _, h, _ => by simp at h
  | p :: P, w :: vs, 0, m, nd, h1, h2, hk => by
    simp at h1 h2; subst h1; subst h2
    show bindC kindOf ((p, w) :: P.zip vs) m p = _
    unfold bindC
    rw [bindC_out fun v hv => (List.nodup_cons.mp nd).1 (List.of_mem_zip hv).1, if_neg hk]
    simp
  | p :: P, w :: vs, i + 1, m, nd, h1, h2, hk => by
    show bindC kindOf ((p, w) :: P.zip vs) m x = _
    unfold bindC
    exact bindC_get (i := i) (List.nodup_cons.mp nd).2 (by simpa using h1) (by simpa using h2) hk
def start (N : List Str) (vs : List V) : St := vs.map some ++ List.replicate (N.length - vs.length) none
def cxOf (CX : CXT) (P : Program) (w : World) (K : PySem.W.Frag) (mg : Str → Option Value) (base : Heap) (N : List Str) (qual : Str) (scope : Scope) (f : Addr) (cd : Value) (A : Around) (outer : List Env) (s : Shared) (H : Hp) (E : XK) : Cx where
  prog := P
  w := w
  K := K
  mg := mg
  base := base
  A := A.deeper (envOfC qual scope s.heap.objs.size f cd)
  N := N
  s₀ := s
  H₀ := H
  env := envOfC qual scope s.heap.objs.size f cd
  outer := outer
  stack := envOfC qual scope s.heap.objs.size f cd :: outer
  ex := []
  calm := true
  fn := fun _ => true
  pn := []
  xe := fun e s' => wpAny (model P w) (A.deeper (envOfC qual scope s.heap.objs.size f cd)) (leaving (envOfC qual scope s.heap.objs.size f cd) e) (fun _ s'' => CX outer H s E e s'') (fun e' s'' => CX outer H s E e' s'') s'
theorem cell_has {sc : Scope} {n : Nat} {x : Str} (h : sc.names.lookup x = some .cell) : ∃ c, (cellsFrom n sc.names []).lookup x = some c := by
  have q := PySem.W.cellsFrom_some sc.names n [] (.inl h)
  exact Option.isSome_iff_exists.mp q
theorem inv_start {CX : CXT} {P : Program} {w : World} {K : PySem.W.Frag} {mg : Str → Option Value} {base : Heap} {N ps : List Str} {qual : Str} {scope : Scope} {f : Addr} {cd : Value} {A : Around} {outer : List Env} {s s1 : Shared} {H : Hp} {E : XK} {us : List Value} {vs : List V}
    (S : FnScope N ps scope) (hd : A.handled = none) (e0 : Env0 P w K mg base A outer s H) (hl : vs.length = ps.length) (r : Vals vs us)
    (x : InCallC s s.heap.objs.size (bindL (envOfC qual scope s.heap.objs.size f cd).kindOf (ps.zip us) fun _ => none) (cellsFrom (s.heap.objs.size + 1) scope.names []) (bindC (envOfC qual scope s.heap.objs.size f cd).kindOf (ps.zip us) fun _ => none) s1) :
    Inv (cxOf CX P w K mg base N qual scope f cd A outer s H E) [] (start N vs) H s1 := by
  have hpl : ps.length ≤ N.length := by have := congrArg List.length S.pre; rw [List.length_take] at this; omega
  obtain ⟨h1, tk, rfl, hk⟩ := x.done
  have noA : ∀ b : Addr, b ∉ (cxOf CX P w K mg base N qual scope f cd A outer s H E).ex := fun b z => absurd (show b ∈ ([] : List Addr) from z) (by simp)
  refine ⟨⟨e0.mod, S.kind, rfl, rfl, Nat.le_refl _, fun y z c h1 h2 => ?_, fun y hy => ?_, fun y c _ h => ?_, fun _ => hd, Around.frames_deeper e0.frames, .inr ⟨rfl, rfl⟩, fun b z => absurd z (noA b), e0.bs, e0.bsz, fun b _ _ => noA b, fun b z => absurd z (noA b), e0.funs, e0.frf⟩,
    rfl, e0.bare, Un.kept hk, ⟨_, x.toInCall.ns, fun i y v h1 h2 h3 => ?_⟩, fun y c h => ⟨_, x.cell y c h⟩, e0.hok.fresh (Nat.le_refl _), fun y c h => ?_, fun p hp => absurd (show p ∈ ([] : List (Addr × Obj)) from hp) (by simp), e0.hok.kept hk, ?_⟩
  · exact name_of_addr x.apart (PySem.mem_of_lookup h1) (PySem.mem_of_lookup h2)
  · have hy : scope.names.lookup y = some .cell ∨ scope.names.lookup y = some .free := hy
    rcases hy with hy | hy
    · exact cell_has hy
    · exact absurd rfl (S.nofree _ (PySem.mem_of_lookup hy))
  · exact Nat.le_of_lt (x.above y c (PySem.mem_of_lookup h))
  · have hi : i < vs.length := by
      unfold start at h2
      by_cases hi : i < vs.length
      · exact hi
      · rw [List.getElem?_append_right (by simpa using hi)] at h2
        rw [List.getElem?_replicate] at h2
        split at h2 <;> cases h2
    have ha : vs[i]? = some v := by
      unfold start at h2
      rw [List.getElem?_append_left (by simpa using hi), List.getElem?_map] at h2
      cases e : vs[i]? with
      | none => rw [e] at h2; cases h2
      | some a => rw [e] at h2; cases h2; rfl
    obtain ⟨u, hu, rv⟩ := r.get ha
    have hp : ps[i]? = some y := by
      rw [← S.pre, List.getElem?_take_of_lt (by omega)]; exact h1
    have ndP : ps.Nodup := by rw [← S.pre]; exact S.nd.sublist (List.take_sublist _ _)
    refine ⟨u, rv, ?_⟩
    rcases S.par y (List.mem_of_getElem? hp) with k | k
    · exact .inl ⟨k, bindL_get ndP hp hu k⟩
    · obtain ⟨c, e⟩ := cell_has (n := s.heap.objs.size + 1) k
      refine .inr ⟨.inl k, c, e, ?_⟩
      have q := x.cell y c e
      rw [bindC_get ndP hp hu (by show scope.names.lookup y ≠ _; rw [k]; decide)] at q
      exact q
  · exact e0.hok.fresh (Nat.le_of_lt (x.above y c (PySem.mem_of_lookup h)))
  · unfold start
    show _ = N.length
    rw [List.length_append, List.length_map, List.length_replicate]
    omega
theorem fn_of {CX : CXT} {P : Program} {w : World} {K : PySem.W.Frag} {mg : Str → Option Value} {base : Heap} {k : Nat} {f : Addr} {name qual : Str} {params : Arguments} {body : List Stmt} {scope : Scope} {dV kV doc pm cdv ct oc : Value} {an od : Option Addr}
    {osl : Array (Option Value)} {N ps : List Str} {sp : Sp} (lk : K.lookup f = some ⟨oc, od, .func (PySem.W.fnOf name qual params body scope dV kV doc pm an cdv ct), osl⟩) (hcd : PySem.W.codeIn K cdv qual = true) (S : FnScope N ps scope)
    (len : ∀ vs H Q E, sp vs H Q E → vs.length = ps.length)
    (hbody : ∀ (A : Around) (outer : List Env) (s : Shared) (H : Hp) (vs : List V) (Q : VK) (E : XK), Room k (A.deeper (envOfC qual scope s.heap.objs.size f cdv)) → sp vs H Q E →
      ∃ t, PSs (cxOf CX P w K mg base N qual scope f cdv A outer s H E) body t ∧ t { nx := fun _ H' => Q .non H', rt := Q } (start N vs) H) :
    FnOk P w K mg base CX (k + 1) f (PySem.W.fnOf name qual params body scope dV kV doc pm an cdv ct) ps sp := by
  refine ⟨len, fun A outer s H args us vs Q E hr e0 hb r hsp => ?_⟩
  have hl := len _ _ _ _ hsp
  have KX : K.In s.heap := e0.mod.kin.keeps fun b o e => (e0.bs b o e).1
  have lim : s.heap.NoLimit := e0.mod.nolimit.keeps fun b o e => (e0.bs b o e).1
  have hkind : ∀ y ∈ ps.zip us, scope.names.lookup y.1 = some .local ∨ (scope.names.lookup y.1 = some .cell ∧ ((cellsFrom (s.heap.objs.size + 1) scope.names []).lookup y.1).isSome = true) := fun ⟨n, v⟩ hy => by
    rcases S.par n (List.of_mem_zip hy).1 with q | q
    · exact .inl q
    · exact .inr ⟨q, PySem.W.cellsFrom_some _ _ _ (.inl q)⟩
  refine codeAny_call_function hr.depth (KX _ _ lk) rfl S.co S.gen rfl (PySem.W.codeRec_of KX hcd) (hb _ _ _ _ ?_)
  refine wpAny_newFunctionEnv_cells S.kind hkind fun env he s1 x => ?_
  subst he
  refine ⟨lim.keeps x.toInCall.keep, codeAny_func ?_⟩
  obtain ⟨t, ht, hq⟩ := hbody A outer s H vs Q E (hr.deeper _) hsp
  have I : Inv (cxOf CX P w K mg base N qual scope f cdv A outer s H E) [] (start N vs) H s1 := inv_start S hr.hd e0 hl r x
  refine wpAny_mono (ht [] s1 (start N vs) H _ I hq) (fun fl s' hs => ?_) fun e s' hs => hs
  have fin : ∀ {σ' : St} {H' : Hp} {v : V} {u : Value}, Inv (cxOf CX P w K mg base N qual scope f cdv A outer s H E) [] σ' H' s' → RelV v u → Q v H' → CE outer P w H s Q u s' :=
    fun {σ' H' v u} J rv q => ⟨v, H', J.os, J.bare, J.base, J.hok, rv, q⟩
  cases fl with
  | ret u =>
    obtain ⟨v, σ', H', J, rv, q⟩ := hs
    exact fin J rv q
  | next =>
    obtain ⟨σ', H', J, q⟩ := hs
    exact fin (v := V.non) (u := Value.none) J rfl q
  | brk =>
    obtain ⟨_, _, _, q⟩ := hs
    exact False.elim q
  | cont =>
    obtain ⟨_, _, _, q⟩ := hs
    exact False.elim q
end L2
namespace L2
open PySem PySem.Spec PyProof.Rows
section
variable {X : Cx} {x : Str} {p pos : Pos} {e : Expr} {es : List Expr} {t : TA} {id T : String} {r : List V → Hp → VK → Prop}
def tCB (r : List V → Hp → VK → Prop) (t : TA) : TE := fun σ H Q => t σ H fun vs H1 => r vs H1 Q
theorem pe_callB (hc : CallR X (.builtin id) r) (hg : Gl X x) (hm : X.mg x = none) (hv : bootBuiltins x = some (.builtin id)) (ha : PA X (e :: es) t) (hn : x ≠ "__name__" := by decide) (hdb : (x == ("__debug__" : Str)) = false := by decide)
    (he : starEach (e :: es) X.env = (false, eval e X.env) :: starEach es X.env := by rfl) (hpl : (backTo pos (starEach es X.env)).any (·.1) = false := by rfl) : PE X (.Call (.Name x p) (e :: es) [] pos) (tCB r t) := by
  intro pins s σ H Q I h
  refine wpAny_Call_Name_kw (ld_blt I hg hm hv ?_ hn hdb)
  exact PyProof.Rows.callWith_builtin1 (thn (ha pos pins s σ H _ I h) fun us s1 ⟨vs, H1, I1, r1, q1⟩ => hc pins s1 σ H1 vs us Q I1 r1 q1) he hpl
theorem pe_callTy (hc : CallR X (.type T) r) (hg : Gl X x) (hm : X.mg x = none) (hv : bootBuiltins x = some (.type T)) (ha : PA X (e :: es) t) (hn : x ≠ "__name__" := by decide) (hdb : (x == ("__debug__" : Str)) = false := by decide)
    (he : starEach (e :: es) X.env = (false, eval e X.env) :: starEach es X.env := by rfl) (hpl : (backTo pos (starEach es X.env)).any (·.1) = false := by rfl) : PE X (.Call (.Name x p) (e :: es) [] pos) (tCB r t) := by
  intro pins s σ H Q I h
  refine wpAny_Call_Name_kw (ld_blt I hg hm hv ?_ hn hdb)
  exact PyProof.Rows.callWith_type1 (thn (ha pos pins s σ H _ I h) fun us s1 ⟨vs, H1, I1, r1, q1⟩ => hc pins s1 σ H1 vs us Q I1 r1 q1) he hpl
end
end L2
namespace HT
open PySem PyProof.Rows
def lexLt : List Int → List Int → Bool
  | [], [] => false
  | [], _ :: _ => true
  | _ :: _, [] => false
  | x :: xs, y :: ys => if x = y then lexLt xs ys else decide (x < y)
section
open PySem.SeqAt
open PySem.AutoSeq1 (wpAny_loadPart')
open PySem.MeetsSeq PySem.MeetsSeq2 PySem.MeetsSeq3
end
section
variable {prog : Program} {w : World} {A : Around} {E : Value → Shared → Prop} {s : Shared}
def sIx (n d : Nat) : Option Int → Nat
  | none => d
  | some v => if v < 0 then (v + (n : Int)).toNat else min v.toNat n
theorem sIx_none (n d : Nat) : sIx n d none = d := rfl
theorem sIx_nat (n d k : Nat) : sIx n d (some (k : Int)) = min k n := by
  show (if (k : Int) < 0 then ((k : Int) + (n : Int)).toNat else min (k : Int).toNat n) = min k n
  rw [if_neg (by omega), Int.toNat_natCast]
theorem sIx_le (n d : Nat) (hd : d ≤ n) (o : Option Int) : sIx n d o ≤ n := by
  cases o with
  | none => exact hd
  | some v =>
    show (if v < 0 then (v + (n : Int)).toNat else min v.toNat n) ≤ n
    by_cases hv : v < 0
    · rw [if_pos hv]; omega
    · rw [if_neg hv]; exact Nat.min_le_right _ _
theorem clip_eq (v : Int) (n d : Nat) : (if v < 0 then max (v + (n : Int)) 0 else min v (n : Int)) = ((sIx n d (some v) : Nat) : Int) := by
  show (if v < 0 then max (v + (n : Int)) 0 else min v (n : Int)) = (((if v < 0 then (v + (n : Int)).toNat else min v.toNat n) : Nat) : Int)
  by_cases hv : v < 0
  · simp only [if_pos hv]; omega
  · simp only [if_neg hv]; omega
theorem adjust_gen (lo hi : Option Int) (n : Nat) : Builtin.Slice.sliceAdjust lo hi 1 (n : Int) = (((sIx n 0 lo : Nat) : Int), ((sIx n n hi : Nat) : Int)) := by
  have h1 : ¬ ((1 : Int) < 0) := by omega
  unfold Builtin.Slice.sliceAdjust
  simp only [h1, if_false]
  refine Prod.ext ?_ ?_
  · cases lo with
    | none => rfl
    | some v => exact clip_eq v n 0
  · cases hi with
    | none => rfl
    | some v => exact clip_eq v n n
theorem places_gen (i j : Nat) : Builtin.Slice.slicePlaces (i : Int) (j : Int) 1 = j - i := by
  unfold Builtin.Slice.slicePlaces
  have h1 : (1 : Int) > 0 := by omega
  simp only [h1, if_true, Int.ediv_one]
  split <;> omega
theorem slicePart_ {v : Value} {o : Option Int} {Q : Option Int → Shared → Prop} (p : IsPart v o) (h : Q o s) : wpAny (model prog w) A (Builtin.Slice.slicePartIndex v) Q E s := by
  cases p with
  | none => exact slicePart_none h
  | int i t => exact slicePart_int h
theorem sliceApplied_gen {sl : Addr} {vl vu : Value} {lo hi : Option Int} {n : Nat} {Q : Int × Int × Nat → Shared → Prop} (hs : s.heap.IsSliceOf sl vl vu .none) (pl : IsPart vl lo) (pu : IsPart vu hi)
    (h : Q (((sIx n 0 lo : Nat) : Int), 1, sIx n n hi - sIx n 0 lo) s) : wpAny (model prog w) A (Builtin.Slice.sliceApplied (.ref sl) (pure (n : Int))) Q E s := by
  obtain ⟨os, hos, hcs, hds⟩ := id hs
  unfold Builtin.Slice.sliceApplied Builtin.Slice.sliceFields
  refine wpAny_bind (wpAny_bind (wpAny_field hos hds (x := vl) rfl (wpAny_bind (wpAny_field hos hds (x := vu) rfl (wpAny_bind (wpAny_field hos hds (x := .none) rfl (wpAny_pure ?_)))))))
  refine wpAny_bind (slicePart_none ?_)
  show wpAny _ _ (if ((1 : Int) == 0) = true then _ else _) _ _ s
  rw [if_neg (by decide)]
  refine wpAny_bind (slicePart_ pl (wpAny_bind (slicePart_ pu (wpAny_bind (wpAny_pure ?_)))))
  show wpAny _ _ (match Builtin.Slice.sliceAdjust lo hi 1 (n : Int) with | (lo, hi) => pure (lo, (1 : Int), Builtin.Slice.slicePlaces lo hi 1)) _ _ s
  rw [adjust_gen lo hi n]
  show wpAny _ _ (pure (((sIx n 0 lo : Nat) : Int), (1 : Int), Builtin.Slice.slicePlaces ((sIx n 0 lo : Nat) : Int) ((sIx n n hi : Nat) : Int) 1)) _ _ s
  rw [places_gen]
  exact wpAny_pure h
theorem pick_gen (xs : Array Value) (i k : Nat) : ((List.range k).filterMap fun (m : Nat) => xs[((i : Int) + (m : Int) * 1).toNat]?).toArray = ((xs.toList.drop i).take k).toArray := by
  have e : (fun (m : Nat) => xs[((i : Int) + (m : Int) * 1).toNat]?) = fun m => xs[i + m]? := by
    funext m
    have : ((i : Int) + (m : Int) * 1).toNat = i + m := by omega
    rw [this]
  rw [e]
  have := pick_run xs i k
  rw [List.filterMap_map] at this
  have e2 : ((fun x => xs[x]?) ∘ fun x => i + x) = fun m => xs[i + m]? := rfl
  rw [e2] at this
  rw [this]
theorem getItem_tuple_cut {t sl : Addr} {items : Array Value} {vl vu : Value} {lo hi : Option Int} {Q : Value → Shared → Prop} (ht : IsTup s.heap t items) (hs : s.heap.IsSliceOf sl vl vu .none) (pl : IsPart vl lo) (pu : IsPart vu hi)
    (hw : ¬ (sIx items.size 0 lo = 0 ∧ sIx items.size items.size hi = items.size))
    (h : Q (.ref s.heap.objs.size) { s with heap := s.heap.push { cls := .type "tuple", data := .seq ((items.toList.drop (sIx items.size 0 lo)).take (sIx items.size items.size hi - sIx items.size 0 lo)).toArray } })
    (hsz : items.size ≤ sizeLine) : wpAny (model prog w) A (getItem (.ref t) (.ref sl)) Q E s := by
  have htake : sizeOk (.seq ((items.toList.drop (sIx items.size 0 lo)).take (sIx items.size items.size hi - sIx items.size 0 lo)).toArray) := by
    show ((items.toList.drop (sIx items.size 0 lo)).take (sIx items.size items.size hi - sIx items.size 0 lo)).toArray.size ≤ sizeLine
    rw [List.size_toArray, List.length_take, List.length_drop, Array.length_toList]
    omega
  have hj : sIx items.size items.size hi ≤ items.size := sIx_le _ _ (Nat.le_refl _) hi
  obtain ⟨os, hos, hcs, hds⟩ := id hs
  have hTs : s.TypeIs (.ref sl) "slice" := ⟨os, hos, hcs⟩
  unfold getItem
  try with_reducible refine wpAny_holding ?_
  first | refine wpAny_bind (wpAny_pure ?_) | skip
  refine wpAny_bind (wpAny_sequenceKey ht.typeIs (by decide) ?_)
  refine wpAny_bind (wpAny_callSpecial?_slot (name := Str.ofString "__getitem__") ht.typeIs PyProof.Rows.slot_tuple_getitem
    (wpAny_call_entry PyProof.Rows.slot_tuple_getitem ht.typeIs entry_tuple_getitem ?_ (args_tuple_getitem _ _)))
  show wpAny _ _ (Builtin.Tuple.tupleItemsOf (.ref t) >>= _) _ _ s
  refine wpAny_bind (tupleItemsOf_ ht ?_)
  refine wpAny_bind (wpAny_typeOf hTs ?_)
  rw [if_pos (by decide)]
  refine wpAny_bind (sliceApplied_gen hs pl pu ?_)
  have hno : ¬ ((((sIx items.size 0 lo : Nat) : Int) == 0 && (1 : Int) == 1 && (sIx items.size items.size hi - sIx items.size 0 lo) == items.size) = true) := by
    intro q
    rw [Bool.and_eq_true, Bool.and_eq_true] at q
    have q1 : ((sIx items.size 0 lo : Nat) : Int) = 0 := eq_of_beq q.1.1
    have q2 : sIx items.size items.size hi - sIx items.size 0 lo = items.size := eq_of_beq q.2
    exact hw ⟨by omega, by omega⟩
  show wpAny _ _ (if (((sIx items.size 0 lo : Nat) : Int) == 0 && (1 : Int) == 1 && (sIx items.size items.size hi - sIx items.size 0 lo) == items.size) = true then _ else _) _ _ s
  rw [if_neg hno, pick_gen]
  first
    | exact wpAny_bind (m := Builtin.Tuple.tupleExact _) (wpAny_newObj_type (wpAny_pure ⟨_, rfl, wpAny_pure h⟩) htake)
    | exact wpAny_bind (m := Builtin.Tuple.tupleExact _) (wpAny_newObj_type (wpAny_bind (wpAny_pure (wpAny_pure ⟨_, rfl, wpAny_pure h⟩))) htake)
    | exact wpAny_bind (wpAny_bind (m := Builtin.Tuple.tupleExact _) (wpAny_newObj_type (wpAny_pure (wpAny_pure ⟨_, rfl, wpAny_pure h⟩)) htake))
    | exact wpAny_bind (wpAny_bind (m := Builtin.Tuple.tupleExact _) (wpAny_newObj_type (wpAny_pure ⟨_, rfl, wpAny_pure h⟩) htake))
end
end HT
namespace L2
open PySem PySem.Spec PyProof.Rows
abbrev TO := St → Hp → (Option Int → Hp → Prop) → Prop
def PO (X : Cx) (e : Option Expr) (t : TO) : Prop :=
  ∀ (pins : List (Addr × Obj)) (s : Shared) (σ : St) (H : Hp) (Q : Option Int → Hp → Prop), Inv X pins σ H s → t σ H Q →
    wpAny (model X.prog X.w) X.A (evalPart e X.env) (fun u s' => ∃ o H', Inv X pins σ H' s' ∧ IsPart u o ∧ Q o H') X.xe s
def tNoPart : TO := fun _ H Q => Q none H
def tPart (t : TE) : TO := fun σ H Q => t σ H fun x H1 => ∃ i, x = .int i ∧ Q (some i) H1
section
variable {X : Cx} {e : Expr} {te : TE} {lo hi : Option Expr} {tl th : TO} {pos p2 : Pos}
theorem po_none : PO X none tNoPart := by
  intro pins s σ H Q I h
  rw [evalPart_none]
  exact wpAny_pure ⟨none, H, I, .none, h⟩
theorem po_some (h : PE X e te) : PO X (some e) (tPart te) := by
  intro pins s σ H Q I hw
  rw [evalPart_some]
  refine thn (h pins s σ H _ I hw) fun u s1 ⟨x, H1, I1, r1, q1⟩ => ?_
  obtain ⟨i, rfl, q⟩ := q1
  obtain ⟨t, rfl⟩ := r1
  exact ⟨some i, H1, I1, .int i t, q⟩
def SlR (X : Cx) (r : V → Option Int → Option Int → Hp → VK → Prop) : Prop :=
  ∀ (pins : List (Addr × Obj)) (s : Shared) (σ : St) (H : Hp) (x : V) (v vl vu : Value) (lo hi : Option Int) (sl : Addr) (Q : VK), Inv X pins σ H s → RelV x v → s.heap.IsSliceOf sl vl vu .none → IsPart vl lo → IsPart vu hi → r x lo hi H Q →
    ∃ T id, typeLookup (.type T) "__getitem__" = pure (some (.builtin id)) ∧ s.TypeIs v T ∧ wpAny (model X.prog X.w) X.A (getItem v (.ref sl)) (EP X pins σ Q) X.xe s
def tSl (r : V → Option Int → Option Int → Hp → VK → Prop) (te : TE) (tl th : TO) : TE := fun σ H Q => te σ H fun x H1 => tl σ H1 fun l H2 => th σ H2 fun u H3 => r x l u H3 Q
theorem pe_slice {r : V → Option Int → Option Int → Hp → VK → Prop} (hr : SlR X r) (he : PE X e te) (hl : PO X lo tl) (hu : PO X hi th) : PE X (.Subscript e (.Slice lo hi none p2) pos) (tSl r te tl th) := by
  intro pins s σ H Q I h
  refine Subscript_ (thn (he pins s σ H _ I h) fun v s1 ⟨x, H1, I1, r1, q1⟩ => ?_)
  refine wpAny_Slice (thn (hl pins s1 σ H1 _ I1 q1) fun vl s2 ⟨l, H2, I2, pl, q2⟩ => thn (hu pins s2 σ H2 _ I2 q2) fun vu s3 ⟨u, H3, I3, pu, q3⟩ => ?_)
  rw [evalPart_none]
  refine wpAny_pure ?_
  have I4 : Inv X pins σ H3 { s3 with heap := s3.heap.push { cls := .type "slice", data := .fields #[vl, vu, .none] } } := I3.kept (t' := s3.toks) fun b ob q => Heap.get?_push_of_some _ q
  obtain ⟨T, id, hT, ht, hg⟩ := hr pins { s3 with heap := s3.heap.push { cls := .type "slice", data := .fields #[vl, vu, .none] } } σ H3 x v vl vu l u s3.heap.objs.size Q I4 r1 (Heap.IsSliceOf.new ..) pl pu q3
  show wpAny (model X.prog X.w) X.A (subscriptTail e (.Slice lo hi none p2) v (.ref s3.heap.objs.size)) (EP X pins σ Q) X.xe { s3 with heap := s3.heap.push { cls := .type "slice", data := .fields #[vl, vu, .none] } }
  exact tail_any (ops := [.ref s3.heap.objs.size, v]) ht hT hg (by with_unfolding_all rfl)
def cutV (xs : List V) (lo hi : Option Int) : List V := (xs.drop (HT.sIx xs.length 0 lo)).take (HT.sIx xs.length xs.length hi - HT.sIx xs.length 0 lo)
theorem cutV_length (xs : List V) (lo hi : Option Int) : (cutV xs lo hi).length ≤ xs.length := by
  unfold cutV
  rw [List.length_take, List.length_drop]
  omega
def rSlT (K : PySem.W.Frag) : V → Option Int → Option Int → Hp → VK → Prop := fun x lo hi H Q => ∃ a xs, x = .ref a ∧ SqT K H a xs ∧
  ¬ (HT.sIx xs.length 0 lo = 0 ∧ HT.sIx xs.length xs.length hi = xs.length) ∧ ∀ p, H p = none → Q (.ref p) (upd H p (.tup (cutV xs lo hi)))
theorem sl_tup : SlR X (rSlT X.K) := by
  intro pins s σ H x v vl vu lo hi sl Q I rx hs pl pu h
  obtain ⟨a, xs, rfl, hx, hw, q⟩ := h
  cases rx
  obtain ⟨its, r, ht, hz⟩ := I.tuple hx
  have hlen : its.toArray.size = xs.length := by rw [List.size_toArray]; exact r.length.symm
  refine ⟨"tuple", _, PyProof.Rows.slot_tuple_getitem.lookup, ht.typeIs, ?_⟩
  refine HT.getItem_tuple_cut ht hs pl pu (by rw [hlen]; exact hw) ?_ (by rw [hlen]; exact hz)
  rw [hlen]
  refine ⟨.ref s.heap.objs.size, _, I.laid (t' := s.toks) (o := .tup (cutV xs lo hi)) (fun b ob q => Heap.get?_push_of_some _ q) (Nat.le_refl _) ?_, rfl, q _ (I.hok.fresh (Nat.le_refl _))⟩
  exact ⟨Nat.le_trans (cutV_length xs lo hi) hz, _, (r.drop (HT.sIx xs.length 0 lo)).take (HT.sIx xs.length xs.length hi - HT.sIx xs.length 0 lo), IsTupN.new _ _⟩
def rLtT (K : PySem.W.Frag) : R2 := fun x y H Q => ∃ a b ns ms, x = .ref a ∧ y = .ref b ∧ SqT K H a (ns.map V.int) ∧ SqT K H b (ms.map V.int) ∧ Q (.bl (HT.lexLt ns ms)) H
def rCatT (K : PySem.W.Frag) : R2 := fun x y H Q => ∃ a b xs ys, x = .ref a ∧ y = .ref b ∧ SqT K H a xs ∧ SqT K H b ys ∧ xs ≠ [] ∧ xs.length + ys.length ≤ sizeLine ∧
  (ys = [] → Q (.ref a) H) ∧ (ys ≠ [] → ∀ p, H p = none → Q (.ref p) (upd H p (.tup (xs ++ ys))))
end
end L2
namespace L2
open PySem PySem.Spec PyProof.Rows
def ixN (n : Nat) (i : Int) : Option Nat := if 0 ≤ i then (if i < n then some i.toNat else none) else if -(n : Int) ≤ i then some (i + n).toNat else none
def atI {α : Type} (xs : List α) (i : Int) : Option α := (ixN xs.length i).bind fun j => xs[j]?
theorem ixN_seq {n : Nat} {i : Int} {j : Nat} (h : ixN n i = some j) : seqIndex? i n = some j ∧ j < n ∧ -(n : Int) ≤ i ∧ i < n := by
  unfold ixN at h
  by_cases h0 : 0 ≤ i
  · rw [if_pos h0] at h
    by_cases h1 : i < n
    · rw [if_pos h1] at h
      have e : i.toNat = j := Option.some.inj h
      exact ⟨by rw [seqIndex_of h0 h1, e], by omega, by omega, h1⟩
    · rw [if_neg h1] at h; cases h
  · rw [if_neg h0] at h
    by_cases h1 : -(n : Int) ≤ i
    · rw [if_pos h1] at h
      have e : (i + n).toNat = j := Option.some.inj h
      exact ⟨by rw [seqIndex_neg (by omega) h1, e], by omega, h1, by omega⟩
    · rw [if_neg h1] at h; cases h
theorem atI_get {α : Type} {xs : List α} {i : Int} {v : α} (h : atI xs i = some v) : ∃ j, seqIndex? i xs.length = some j ∧ xs[j]? = some v ∧ j < xs.length ∧ -(xs.length : Int) ≤ i ∧ i < xs.length := by
  unfold atI at h
  cases e : ixN xs.length i with
  | none => rw [e] at h; cases h
  | some j =>
    rw [e] at h
    obtain ⟨h1, h2, h3, h4⟩ := ixN_seq e
    exact ⟨j, h1, h, h2, h3, h4⟩
theorem atI_nat {α : Type} {xs : List α} {j : Nat} {v : α} (h : xs[j]? = some v) : atI xs (j : Int) = some v := by
  have hj : j < xs.length := (List.getElem?_eq_some_iff.mp h).1
  have e : ixN xs.length (j : Int) = some j := by
    unfold ixN
    rw [if_pos (by omega), if_pos (by omega)]; simp
  unfold atI; rw [e]; exact h
theorem atI_last {α : Type} (xs : List α) (v : α) : atI (xs ++ [v]) (-1) = some v := by
  have hl : (xs ++ [v]).length = xs.length + 1 := by simp
  have e : ixN (xs ++ [v]).length (-1) = some xs.length := by
    unfold ixN
    rw [hl, if_neg (by decide), if_pos (by omega)]
    congr 1
    omega
  unfold atI
  rw [e]
  show (xs ++ [v])[xs.length]? = some v
  simp
def PlainIx (b : Expr) : Prop := ∀ o i, subscripted b false o i = operate [o, i] (getItem o i)
def IxR (X : Cx) (r : R2) : Prop :=
  ∀ (value slice : Expr) (pins : List (Addr × Obj)) (s : Shared) (σ : St) (H : Hp) (x y : V) (v u : Value) (Q : VK), Inv X pins σ H s → RelV x v → RelV y u → r x y H Q →
    subscripted slice false v u = operate [v, u] (getItem v u) → wpAny (model X.prog X.w) X.A (subscriptTail value slice v u) (EP X pins σ Q) X.xe s
def MtR (X : Cx) (id : String) (r : V → List V → Hp → VK → Prop) : Prop :=
  ∀ (pins : List (Addr × Obj)) (s : Shared) (σ : St) (H : Hp) (x : V) (xs : List V) (v : Value) (us : List Value) (Q : VK), Inv X pins σ H s → RelV x v → Vals xs us → r x xs H Q →
    wpAny (model X.prog X.w) X.A (call (.builtin id) (v :: us)) (EP X pins σ Q) X.xe s
section
variable {X : Cx} {a b : Expr} {ta tb : TE} {pos : Pos}
theorem pe_ix {r : R2} (hr : IxR X r) (ha : PE X a ta) (hb : PE X b tb) (hs : PlainIx b) : PE X (.Subscript a b pos) (tOp r ta tb) := by
  intro pins s σ H Q I h
  exact Subscript_ (binT ha hb I h fun v u s2 x y H2 I2 rx ry q => hr a b pins s2 σ H2 x y v u Q I2 rx ry q (hs _ _))
def rIxL (K : PySem.W.Frag) : R2 := fun x y H Q => ∃ p xs i v, x = .ref p ∧ y = .int i ∧ SqL K H p xs ∧ atI xs i = some v ∧ Q v H
def rIxT (K : PySem.W.Frag) : R2 := fun x y H Q => ∃ p xs i v, x = .ref p ∧ y = .int i ∧ SqT K H p xs ∧ atI xs i = some v ∧ Q v H
def rIxS : R2 := fun x y H Q => ∃ z i c, x = .str z ∧ y = .int i ∧ z.length ≤ sizeLine ∧ atI z.cps.toList i = some c ∧ Q (.str ⟨#[c]⟩) H
theorem ix_list : IxR X (rIxL X.K) := by
  intro value slice pins s σ H x y v u Q I rx ry h hs
  obtain ⟨p, xs, i, z, rfl, rfl, hq, he, q⟩ := h
  cases rx
  obtain ⟨t, rfl⟩ := ry
  obtain ⟨its, r, pl, hz⟩ := I.list hq
  obtain ⟨j, h1, h2, h3, h4, h5⟩ := atI_get he
  obtain ⟨w, ew, rw'⟩ := r.get h2
  have hl := r.length
  have hn := line63
  have fin : EP X pins σ Q w s := ⟨z, H, I, rw', q⟩
  by_cases h0 : 0 ≤ i
  · have hj : i.toNat = j := by
      rw [seqIndex_of h0 h5] at h1
      exact Option.some.inj h1
    exact item_listR pl.isList h0 (by omega) (by rw [hj]; simpa using ew) fin hs
  · have hj : (i + (its.toArray.size : Int)).toNat = j := by
      rw [seqIndex_neg (by omega) h4] at h1
      rw [List.size_toArray, ← hl]
      exact Option.some.inj h1
    exact subscriptTail_builtinR (x := w) pl.isList.typeIs slot_list_getitem.lookup
      (wpAny_getItem_list_neg (Q := fun r s' => r = w ∧ EP X pins σ Q r s') pl.isList (by omega) (by rw [List.size_toArray] <;> omega) (by omega) (by rw [hj]; simpa using ew) ⟨rfl, fin⟩) hs
theorem ix_tup : IxR X (rIxT X.K) := by
  intro value slice pins s σ H x y v u Q I rx ry h hs
  obtain ⟨p, xs, i, z, rfl, rfl, hq, he, q⟩ := h
  cases rx
  obtain ⟨t, rfl⟩ := ry
  obtain ⟨its, r, pl, hz⟩ := I.tuple hq
  obtain ⟨j, h1, h2, h3, h4, h5⟩ := atI_get he
  obtain ⟨w, ew, rw'⟩ := r.get h2
  have hl := r.length
  have hn := line63
  have fin : EP X pins σ Q w s := ⟨z, H, I, rw', q⟩
  exact subscriptTail_builtinR (x := w) pl.typeIs slot_tuple_getitem.lookup
    (getItem_tuple (j := j) (Q := fun r s' => r = w ∧ EP X pins σ Q r s') pl (by omega) (by omega) (by rw [List.size_toArray, ← hl]; exact h1) (by simpa using ew) ⟨rfl, fin⟩) hs
theorem ix_str : IxR X rIxS := by
  intro value slice pins s σ H x y v u Q I rx ry h hs
  obtain ⟨z, i, c, rfl, rfl, hz, he, q⟩ := h
  obtain ⟨t, rfl⟩ := rx
  obtain ⟨t', rfl⟩ := ry
  obtain ⟨j, h1, h2, h3, h4, h5⟩ := atI_get he
  have hl : z.cps.toList.length = z.length := by simp [Str.length]
  rw [hl] at h1 h4 h5
  have hn := line63
  exact tail_any (typeIs_str s z t) slot_str_getitem.lookup (getItem_str (c := c) (by
    have e1 : decide (i < -(2 ^ 63 : Int)) = false := decide_eq_false (by omega)
    have e2 : decide (i ≥ 2 ^ 63) = false := decide_eq_false (by omega)
    rw [e1, e2, Bool.or_false]) (by rw [h1]; simpa using h2) ⟨.str ⟨#[c]⟩, H, I.tok _, ⟨_, rfl⟩, q⟩) hs
def rIx (K : PySem.W.Frag) : R2 := fun x y H Q => rIxL K x y H Q ∨ rIxT K x y H Q ∨ rIxS x y H Q
theorem mapSeq_set (its : List Value) (n j : Nat) (u : Value) : Obj.mapSeq (·.setIfInBounds j u) { cls := .type "list", data := .seq its.toArray n } = { cls := .type "list", data := .seq (its.set j u).toArray n } := by
  simp [Obj.mapSeq]
theorem Inv.lst {pins : List (Addr × Obj)} {σ : St} {H : Hp} {s : Shared} {p : Addr} {xs : List V} (I : Inv X pins σ H s) (h : H p = some (.lst xs)) :
    ∃ (its : List Value) (n : Nat), Vals xs its ∧ s.heap.get? p = some { cls := .type "list", data := .seq its.toArray n } ∧ xs.length ≤ sizeLine := by
  obtain ⟨z, its, n, r, e⟩ := I.hok p _ h
  exact ⟨its, n, r, e, z⟩
theorem Inv.lstUpd {pins : List (Addr × Obj)} {σ : St} {H : Hp} {s : Shared} {p : Addr} {xs ys : List V} {its its' : List Value} {n n' : Nat} {f : Obj → Obj} (I : Inv X pins σ H s) (h : H p = some (.lst xs))
    (ho : s.heap.get? p = some { cls := .type "list", data := .seq its.toArray n }) (hf : f { cls := .type "list", data := .seq its.toArray n } = { cls := .type "list", data := .seq its'.toArray n' }) (r : Vals ys its') (hz : ys.length ≤ sizeLine) (t : Nat) :
    Inv X pins σ (upd H p (.lst ys)) { s with heap := s.heap.update p f, toks := t } := by
  have e : (s.heap.update p f).get? p = some { cls := .type "list", data := .seq its'.toArray n' } := by
    rw [Heap.get?_update_self f ho (by rw [hf] <;> rfl), hf]
  refine I.write (x := p) (e := p) (by rw [h]; trivial) (.inl rfl) (fun b u hb q => (Heap.get?_update_other _ _ (Ne.symm hb)).trans q) ⟨_, e⟩ ?_
  exact ⟨hz, its', n', r, e⟩
def rSetL : V → V → V → Hp → (Hp → Prop) → Prop := fun o i v H Q => ∃ p xs k j, o = .ref p ∧ i = .int k ∧ H p = some (.lst xs) ∧ ixN xs.length k = some j ∧ Q (upd H p (.lst (xs.set j v)))
theorem set_list : PSet X rSetL := by
  intro pins s σ H o i v ov iv u Q I ro ri rv h
  obtain ⟨p, xs, k, j, rfl, rfl, hp, hj, q⟩ := h
  cases ro
  obtain ⟨t, rfl⟩ := ri
  obtain ⟨its, n, r, ho, hz⟩ := I.lst hp
  obtain ⟨h1, h2, h3, h4⟩ := ixN_seq hj
  have hl := r.length
  have hn := line63
  have I' : Inv X pins σ (upd H p (.lst (xs.set j v))) { s with heap := s.heap.update p (Obj.mapSeq (·.setIfInBounds j u)) } :=
    I.lstUpd hp ho (mapSeq_set its n j u) (r.set rv j) (by rw [List.length_set]; exact hz) s.toks
  by_cases h0 : 0 ≤ k
  · have hk : k.toNat = j := by
      rw [seqIndex_of h0 h4] at h1
      exact Option.some.inj h1
    exact PySem.W.ki_setAt ho h0 (by omega) (by rw [List.size_toArray, ← hl]; exact h4) (by rw [hk]; exact ⟨_, I', q⟩)
  · have hk : (k + (its.toArray.size : Int)).toNat = j := by
      rw [seqIndex_neg (by omega) h3] at h1
      rw [List.size_toArray, ← hl]
      exact Option.some.inj h1
    exact PySem.W.ki_setBack ho (by omega) (by rw [List.size_toArray, ← hl]; exact h3) (by omega) (by rw [hk]; exact ⟨_, I', q⟩)
theorem slice_bounds (lo hi : Option Int) (n : Nat) : (sliceBounds lo hi none n).1 = ((HT.sIx n 0 lo : Nat) : Int) ∧ (sliceBounds lo hi none n).2.1 = ((HT.sIx n n hi : Nat) : Int) ∧ (sliceBounds lo hi none n).2.2 = 1 := by
  refine ⟨?_, ?_, rfl⟩
  · cases lo with
    | none => simp [sliceBounds, HT.sIx]
    | some i =>
      simp only [sliceBounds, HT.sIx, Option.getD_none, show (1 : Int) > 0 by decide, if_true]
      by_cases h : i < 0
      · simp only [h, if_true] <;> omega
      · simp only [h, if_false] <;> omega
  · cases hi with
    | none => simp [sliceBounds, HT.sIx]
    | some i =>
      simp only [sliceBounds, HT.sIx, Option.getD_none, show (1 : Int) > 0 by decide, if_true]
      by_cases h : i < 0
      · simp only [h, if_true] <;> omega
      · simp only [h, if_false] <;> omega
theorem slicePick_cut (its : List Value) (lo hi : Option Int) : slicePick its.toArray lo hi none = ((its.drop (HT.sIx its.length 0 lo)).take (HT.sIx its.length its.length hi - HT.sIx its.length 0 lo)).toArray := by
  obtain ⟨h1, h2, h3⟩ := slice_bounds lo hi its.toArray.size
  unfold slicePick
  rw [h1, h2, h3]
  simp only [sliceRange_one, pick_run, List.size_toArray] <;> rfl
def rSlL (K : PySem.W.Frag) : V → Option Int → Option Int → Hp → VK → Prop := fun x lo hi H Q => ∃ a xs, x = .ref a ∧ SqL K H a xs ∧ ∀ p, H p = none → Q (.ref p) (upd H p (.lst (cutV xs lo hi)))
theorem sl_list : SlR X (rSlL X.K) := by
  intro pins s σ H x v vl vu lo hi sl Q I rx hs pl pu h
  obtain ⟨a, xs, rfl, hx, q⟩ := h
  cases rx
  obtain ⟨its, r, ht, hz⟩ := I.list hx
  have hlen := r.length
  refine ⟨"list", _, slot_list_getitem.lookup, ht.isList.typeIs, ?_⟩
  refine wpAny_getItem_list_slice ht.isList hs pl pu .none (by simp) ?_ (by rw [List.size_toArray] <;> omega)
  rw [slicePick_cut, ← hlen]
  refine ⟨.ref s.heap.objs.size, _, I.laid (t' := s.toks) (o := .lst (cutV xs lo hi)) (fun b ob q => Heap.get?_push_of_some _ q) (Nat.le_refl _) ?_, rfl, q _ (I.hok.fresh (Nat.le_refl _))⟩
  exact ⟨Nat.le_trans (cutV_length xs lo hi) hz, _, 0, (r.drop (HT.sIx xs.length 0 lo)).take (HT.sIx xs.length xs.length hi - HT.sIx xs.length 0 lo), Heap.get?_push_size _ rfl⟩
def flatV : V → Bool
  | .non => true
  | .bl _ => true
  | .int _ => true
  | .str _ => true
  | _ => false
def eqV : V → V → Bool
  | .non, .non => true
  | .bl a, .bl b => a == b
  | .bl a, .int b => (if a then 1 else 0) == b
  | .int a, .bl b => a == (if b then 1 else 0)
  | .int a, .int b => a == b
  | .str a, .str b => a == b
  | _, _ => false
theorem eqAt_V {A : Around} {s : Shared} {y x : V} {u v : Value} (ry : RelV y u) (rx : RelV x v) (fy : flatV y = true) (fx : flatV x = true) : SeqAt.EqAt A s u v (eqV y x) := by
  cases y with
  | non =>
    cases ry
    cases x with
    | non => cases rx; exact SeqAt.EqAt.same _
    | bl b => cases rx; exact SeqAt.EqAt.none_bool b
    | int b => obtain ⟨t, rfl⟩ := rx; exact SeqAt.EqAt.none_int b t
    | str b => obtain ⟨t, rfl⟩ := rx; exact SeqAt.EqAt.none_str b t
    | _ => exact absurd (show false = true from fx) Bool.false_ne_true
  | bl a =>
    cases ry
    cases x with
    | non => cases rx; exact SeqAt.EqAt.bool_none a
    | bl b => cases rx; exact SeqAt.EqAt.bool_bool a b
    | int b => obtain ⟨t, rfl⟩ := rx; exact SeqAt.EqAt.bool_int a b t
    | str b => obtain ⟨t, rfl⟩ := rx; exact SeqAt.EqAt.bool_str a b t
    | _ => exact absurd (show false = true from fx) Bool.false_ne_true
  | int a =>
    obtain ⟨t', rfl⟩ := ry
    cases x with
    | non => cases rx; exact SeqAt.EqAt.int_none a t'
    | bl b => cases rx; exact SeqAt.EqAt.int_bool a t' b
    | int b => obtain ⟨t, rfl⟩ := rx; exact SeqAt.EqAt.int_int a t' b t
    | str b => obtain ⟨t, rfl⟩ := rx; exact SeqAt.EqAt.int_str a t' b t
    | _ => exact absurd (show false = true from fx) Bool.false_ne_true
  | str a =>
    obtain ⟨t', rfl⟩ := ry
    cases x with
    | non => cases rx; exact SeqAt.EqAt.str_none a t'
    | bl b => cases rx; exact SeqAt.EqAt.str_bool a t' b
    | int b => obtain ⟨t, rfl⟩ := rx; exact SeqAt.EqAt.str_int a t' b t
    | str b => obtain ⟨t, rfl⟩ := rx; exact SeqAt.EqAt.str_str a t' b t
    | _ => exact absurd (show false = true from fx) Bool.false_ne_true
  | _ => exact absurd (show false = true from fy) Bool.false_ne_true
def eqU (x : V) (u : Value) : Bool := match u with
  | .none => eqV .non x
  | .bool b => eqV (.bl b) x
  | .int i _ => eqV (.int i) x
  | .str z _ => eqV (.str z) x
  | _ => false
theorem eqU_of {x y : V} {u : Value} (r : RelV y u) (f : flatV y = true) : eqU x u = eqV y x := by
  cases y with
  | non => cases r; rfl
  | bl b => cases r; rfl
  | int i => obtain ⟨t, rfl⟩ := r; rfl
  | str z => obtain ⟨t, rfl⟩ := r; rfl
  | _ => exact absurd (show false = true from f) Bool.false_ne_true
theorem any_eqU {x : V} : ∀ {xs : List V} {us : List Value}, Vals xs us → xs.all flatV = true → us.any (eqU x) = xs.any fun y => eqV y x
  | _, _, .nil, _ => rfl
  | y :: xs, u :: us, .cons r t, f => by
    rw [List.all_cons, Bool.and_eq_true] at f
    rw [List.any_cons, List.any_cons, eqU_of r f.1, any_eqU t f.2]
theorem mem_eqAt {A : Around} {s : Shared} {x : V} {v : Value} (rx : RelV x v) (fx : flatV x = true) : ∀ {xs : List V} {us : List Value}, Vals xs us → xs.all flatV = true → ∀ u ∈ us, SeqAt.EqAt A s u v (eqU x u)
  | _, _, .nil, _ => fun u hu => by cases hu
  | y :: xs, u :: us, .cons r t, f => fun u' hu => by
    rw [List.all_cons, Bool.and_eq_true] at f
    rcases List.mem_cons.mp hu with rfl | hu
    · rw [eqU_of r f.1]; exact eqAt_V r rx f.1 fx
    · exact mem_eqAt rx fx t f.2 u' hu
def inV (x : V) (xs : List V) : Bool := xs.any fun y => eqV y x
def rIn (K : PySem.W.Frag) (neg : Bool) : R2 := fun x y H Q => ∃ p xs, y = .ref p ∧ (SqL K H p xs ∨ SqT K H p xs) ∧ flatV x = true ∧ xs.all flatV = true ∧ Q (.bl (if neg then !inV x xs else inV x xs)) H
theorem op_notIn_seq : OpR X (compareOp .NotIn) (rIn X.K true) := by
  intro pins s σ H x y v u Q I rx ry h
  obtain ⟨p, xs, rfl, hq, fx, fs, q⟩ := h
  cases ry
  rcases hq with hq | hq
  · obtain ⟨its, r, pl, hz⟩ := I.list hq
    refine SeqAt.notIn_listAt (eqU x) pl.isList (fun w hw => mem_eqAt rx fx r fs w (by simpa using hw)) ⟨.bl _, H, I, rfl, ?_⟩
    rw [show its.toArray.any (eqU x) = its.any (eqU x) by simp, any_eqU r fs]
    exact q
  · obtain ⟨its, r, pl, hz⟩ := I.tuple hq
    refine SeqAt.notIn_tupleAt (eqU x) pl (fun w hw => mem_eqAt rx fx r fs w (by simpa using hw)) ⟨.bl _, H, I, rfl, ?_⟩
    rw [show its.toArray.any (eqU x) = its.any (eqU x) by simp, any_eqU r fs]
    exact q
theorem call_len_seq : CallR X (.builtin "len") (fun xs H Q => ∃ p ys, xs = [.ref p] ∧ (SqL X.K H p ys ∨ SqT X.K H p ys) ∧ Q (.int ys.length) H) := by
  intro pins s σ H xs us Q I r h
  obtain ⟨p, ys, rfl, hq, q⟩ := h
  obtain ⟨u, rfl, rx⟩ := vals1 r
  cases rx
  have hn := line63
  rcases hq with hq | hq
  · obtain ⟨its, r', pl, hz⟩ := I.list hq
    have hlen := r'.length
    exact Calls.call_len_list pl.isList (by simp only [List.size_toArray] <;> omega) ⟨.int ys.length, H, I.tok _, ⟨s.toks + 1, by rw [List.size_toArray, hlen]⟩, q⟩
  · obtain ⟨its, r', pl, hz⟩ := I.tuple hq
    have hlen := r'.length
    exact len_tuple pl (by simp only [List.size_toArray] <;> omega) ⟨.int ys.length, H, I.tok _, ⟨s.toks + 1, by rw [List.size_toArray, hlen]⟩, q⟩
theorem call_len_str : CallR X (.builtin "len") (fun xs H Q => ∃ z, xs = [.str z] ∧ z.length ≤ sizeLine ∧ Q (.int z.length) H) := by
  intro pins s σ H xs us Q I r h
  obtain ⟨z, rfl, hz, q⟩ := h
  obtain ⟨u, rfl, t, rfl⟩ := vals1 r
  have hn := line63
  exact len_str (by omega) ⟨.int z.length, H, I.tok _, ⟨_, rfl⟩, q⟩
theorem call_list_of : CallR X (.type "list") (fun xs H Q => ∃ p ys, xs = [.ref p] ∧ (SqL X.K H p ys ∨ SqT X.K H p ys) ∧ ∀ l, H l = none → Q (.ref l) (upd H l (.lst ys))) := by
  intro pins s σ H xs us Q I r h
  obtain ⟨p, ys, rfl, hq, q⟩ := h
  obtain ⟨u, rfl, rx⟩ := vals1 r
  cases rx
  have fin : ∀ (its : List Value), Vals ys its → ys.length ≤ sizeLine → ∀ (h' : Heap) (c' : Nat), (∀ b o', s.heap.get? b = some o' → h'.get? b = some o') →
      h'.get? s.heap.objs.size = some { cls := .type "list", dict := none, data := .seq its.toArray c', slots := #[] } → EP X pins σ Q (.ref s.heap.objs.size) { s with heap := h' } := fun its r' hz h' c' kp e =>
    ⟨.ref s.heap.objs.size, _, I.laid (t' := s.toks) kp (Nat.le_refl _) (show ObjOk X.prog X.w _ h' _ (.lst ys) from ⟨hz, its, c', r', e⟩), rfl, q _ (I.hok.fresh (Nat.le_refl _))⟩
  rcases hq with hq | hq
  · obtain ⟨its, r', pl, hz⟩ := I.list hq
    have hlen := r'.length
    obtain ⟨o, ho, hc, n, hd⟩ := pl.isList
    exact call_list_seq p (.inl rfl) ho hc hd (fun h' c' kp e => fin its r' hz h' c' kp e) (by simp only [List.size_toArray] <;> omega)
  · obtain ⟨its, r', pl, hz⟩ := I.tuple hq
    have hlen := r'.length
    obtain ⟨o, ho, hc, n, hd⟩ := pl
    exact call_list_seq p (.inr rfl) ho hc hd (fun h' c' kp e => fin its r' hz h' c' kp e) (by simp only [List.size_toArray] <;> omega)
def tyV (K : PySem.W.Frag) (T : String) (x : V) (H : Hp) : Prop := match x with
  | .str _ => T = "str"
  | .int _ => T = "int"
  | .ref p => (T = "list" ∧ ∃ xs, SqL K H p xs) ∨ (T = "tuple" ∧ ∃ o, K.lookup p = some o ∧ o.cls = .type "tuple" ∧ o.dict = none) ∨
      (T = "dict" ∧ ((∃ kvs, H p = some (.dK kvs)) ∨ ∃ kvs, H p = some (.dT kvs))) ∨ (T = "set" ∧ ∃ S n, H p = some (.set S n))
  | _ => False
theorem tyV_is {pins : List (Addr × Obj)} {σ : St} {H : Hp} {s : Shared} {T : String} {x : V} {v : Value} (I : Inv X pins σ H s) (r : RelV x v) (ty : tyV X.K T x H) :
    s.TypeIs v T ∧ ∀ a, v = .ref a → ∃ ob, s.heap.get? a = some ob ∧ ob.dict = none := by
  cases x with
  | str z =>
    obtain ⟨t, rfl⟩ := r
    cases (show T = "str" from ty)
    exact ⟨typeIs_str s z t, fun _ e => nomatch e⟩
  | int i =>
    obtain ⟨t, rfl⟩ := r
    cases (show T = "int" from ty)
    exact ⟨typeIs_int s i t, fun _ e => nomatch e⟩
  | ref p =>
    cases r
    rcases ty with ⟨rfl, xs, hq⟩ | ⟨rfl, o, hk, hc, hd⟩ | ⟨rfl, hk⟩ | ⟨rfl, S, n, hk⟩
    · obtain ⟨its, _, pl, _⟩ := I.list hq
      refine ⟨pl.isList.typeIs, fun a e => ?_⟩
      cases e
      obtain ⟨o, n, e, c, hd, _⟩ := pl
      exact ⟨o, e, hd⟩
    · refine ⟨⟨o, I.kIn p o hk, hc⟩, fun a e => ?_⟩
      cases e
      exact ⟨o, I.kIn _ o hk, hd⟩
    · have z : ∃ o, s.heap.get? p = some o ∧ o.ExactDict := by
        rcases hk with ⟨kvs, hk⟩ | ⟨kvs, hk⟩
        · obtain ⟨_, _, _, _, o, _, _, e, ex, _⟩ := I.hok p _ hk
          exact ⟨o, e, ex⟩
        · obtain ⟨_, _, _, _, o, _, _, e, ex, _⟩ := I.hok p _ hk
          exact ⟨o, e, ex⟩
      obtain ⟨o, e, ex⟩ := z
      refine ⟨⟨o, e, ex.1⟩, fun a e2 => ?_⟩
      cases e2
      exact ⟨o, e, ex.2.1⟩
    · obtain ⟨o, _, _, _, e, ex, _⟩ := I.hok p _ hk
      refine ⟨⟨o, e, ex.1⟩, fun a e2 => ?_⟩
      cases e2
      exact ⟨o, e, ex.2.1⟩
  | _ => exact False.elim ty
def tBM0 (K : PySem.W.Frag) (T : String) (r : V → List V → Hp → VK → Prop) (to : TE) : TE := fun σ H Q => to σ H fun x H1 => tyV K T x H1 ∧ r x [] H1 Q
def tBM (K : PySem.W.Frag) (T : String) (r : V → List V → Hp → VK → Prop) (to : TE) (t : TA) : TE := fun σ H Q => to σ H fun x H1 => tyV K T x H1 ∧ t σ H1 fun xs H2 => r x xs H2 Q
variable {o e : Expr} {es : List Expr} {to : TE} {t : TA} {name : Str} {apos cpos : Pos} {T id : String} {r : V → List V → Hp → VK → Prop}
theorem pe_bm0 (pa : PlainAttrs T) (slot : Slot T name id) (hty : typeOf (.builtin id) = pure (.type "method_descriptor")) (hm : MtR X id r) (ho : PE X o to)
    (hbase : attributeBase o name X.env (eval o X.env) = eval o X.env := by rfl) (hline : (apos.endLine == cpos.line) = true := by rfl) : PE X (.Call (.Attribute o name apos) [] [] cpos) (tBM0 X.K T r to) := by
  intro pins s σ H Q I h
  refine wpAny_Call_method0_late hbase hline (thn (ho pins s σ H _ I h) fun v s1 ⟨x, H1, I1, r1, ty, q1⟩ => ?_)
  obtain ⟨h1, h2⟩ := tyV_is I1 r1 ty
  exact ⟨T, id, pa, slot, hty, h1, h2, Calls.callWith_builtin rfl (PySem.evalArgs_none (hm pins s1 σ H1 x [] v [] Q I1 r1 .nil q1))⟩
theorem pe_bm (pa : PlainAttrs T) (slot : Slot T name id) (hty : typeOf (.builtin id) = pure (.type "method_descriptor")) (hm : MtR X id r) (ho : PE X o to) (ha : PA X (e :: es) t)
    (hbase : attributeBase o name X.env (eval o X.env) = eval o X.env := by rfl)
    (hfew : ((backTo cpos (starEach (e :: es) X.env)).all (fun x => !x.1) && (backToKw cpos (keywordEach [] X.env)).all (fun x => x.1.isSome)
      && decide ((e :: es).length + ([] : List Keyword).length + (if ([] : List Keyword).isEmpty then 0 else 1) < 30)) = true := by rfl)
    (hline : (apos.endLine == cpos.line) = true := by rfl) (hs : starEach (e :: es) X.env = (false, eval e X.env) :: starEach es X.env := by rfl) (hplain : (backTo cpos (starEach es X.env)).any (·.1) = false := by rfl) :
    PE X (.Call (.Attribute o name apos) (e :: es) [] cpos) (tBM X.K T r to t) := by
  intro pins s σ H Q I h
  refine wpAny_Call_method_late hbase hfew hline rfl (thn (ho pins s σ H _ I h) fun v s1 ⟨x, H1, I1, r1, ty, q1⟩ => ?_)
  obtain ⟨h1, h2⟩ := tyV_is I1 r1 ty
  refine ⟨T, id, pa, slot, hty, h1, h2, ?_⟩
  have hA := ha cpos pins s1 σ H1 _ I1 q1
  rw [hs] at hA ⊢
  refine Calls.callWith_builtin (by show (false || (backTo cpos (starEach es X.env)).any (·.1)) = false; rw [hplain] <;> rfl) (Calls.evalArgs_plain ?_)
  exact thn hA fun us s2 ⟨vs, H2, I2, r2, q2⟩ => hm pins s2 σ H2 x vs v us Q I2 r1 r2 q2
/- xs.append(e), list.index on a module's tuple .. are MtR facts of 06m -/
end
end L2
namespace L2
open PySem PySem.Spec PyProof.Rows
def MtM (X : Cx) (id : String) (r : V → List V → Hp → VK → Prop) : Prop :=
  ∀ (pins : List (Addr × Obj)) (s : Shared) (σ : St) (H : Hp) (x : V) (xs : List V) (v : Value) (us : List Value) (Q : VK), Inv X pins σ H s → RelV x v → Vals xs us → r x xs H Q →
    wpAny (model X.prog X.w) X.A (call (.builtin id) (v :: us)) (EP X pins σ Q) X.xe s
theorem Vals.one : ∀ {x : V} {us : List Value}, Vals [x] us → ∃ u, us = [u] ∧ RelV x u
  | _, _, .cons r .nil => ⟨_, rfl, r⟩
theorem Vals.two : ∀ {x y : V} {us : List Value}, Vals [x, y] us → ∃ u v, us = [u, v] ∧ RelV x u ∧ RelV y v
  | _, _, _, .cons r (.cons q .nil) => ⟨_, _, rfl, r, q⟩
theorem Vals.zero : ∀ {us : List Value}, Vals [] us → us = []
  | _, .nil => rfl
theorem Vals.dropLast {xs : List V} {us : List Value} (h : Vals xs us) : Vals xs.dropLast us.dropLast := by
  induction h with
  | nil => exact .nil
  | cons r t ih =>
    cases t with
    | nil => exact .nil
    | cons q t' => exact .cons r ih
theorem Vals.eraseIdx : ∀ {xs : List V} {us : List Value} (i : Nat), Vals xs us → Vals (xs.eraseIdx i) (us.eraseIdx i)
  | _, _, _, .nil => .nil
  | _, _, 0, .cons _ t => t
  | _, _, i + 1, .cons r t => .cons r (Vals.eraseIdx i t)
theorem Vals.reverse {xs : List V} {us : List Value} (h : Vals xs us) : Vals xs.reverse us.reverse := by
  induction h with
  | nil => exact .nil
  | cons r t ih => rw [List.reverse_cons, List.reverse_cons]; exact Vals.append ih (.cons r .nil)
theorem Vals.rep {xs : List V} {us : List Value} (h : Vals xs us) : ∀ k : Nat, Vals (List.replicate k xs).flatten (List.replicate k us).flatten
  | 0 => .nil
  | k + 1 => by
    rw [List.replicate_succ, List.replicate_succ, List.flatten_cons, List.flatten_cons]
    exact Vals.append h (Vals.rep h k)
theorem erase_last {α : Type} (l : List α) : l.eraseIdx (l.length - 1) = l.dropLast := by
  induction l with
  | nil => rfl
  | cons a r ih =>
    cases r with
    | nil => rfl
    | cons b r =>
      have e : (a :: b :: r).length - 1 = ((b :: r).length - 1) + 1 := by
        have h1 : (a :: b :: r).length = r.length + 2 := rfl
        have h2 : (b :: r).length = r.length + 1 := rfl
        omega
      rw [e, List.eraseIdx_cons_succ, ih]
      all_goals rfl
theorem foldl_rep (its : List Value) : ∀ (k : Nat) (acc : List Value),
    List.foldl (fun x1 x2 => x1 ++ x2) acc.toArray (List.replicate k its.toArray) = (acc ++ (List.replicate k its).flatten).toArray
  | 0, acc => by simp
  | k + 1, acc => by
    have e : acc.toArray ++ its.toArray = (acc ++ its).toArray := by simp
    have e2 : (acc ++ its) ++ (List.replicate k its).flatten = acc ++ (List.replicate (k + 1) its).flatten := by
      rw [List.replicate_succ, List.flatten_cons, List.append_assoc]
    rw [← e2, ← foldl_rep its k (acc ++ its), ← e, List.replicate_succ, List.foldl_cons]
section
variable {X : Cx} {pins : List (Addr × Obj)} {σ : St} {H : Hp} {s : Shared} {l b : Addr} {xs ys zs : List V}
theorem Inv.lset {its its' : List Value} {n : Nat} {f : Array Value → Array Value} {t' : Nat} (I : Inv X pins σ H s) (hH : H l = some (.lst xs))
    (e : s.heap.get? l = some { cls := .type "list", data := .seq its.toArray n }) (hf : f its.toArray = its'.toArray) (hv : Vals ys its') (hz : ys.length ≤ sizeLine) :
    Inv X pins σ (upd H l (.lst ys)) { s with heap := s.heap.update l (Obj.mapSeq f), toks := t' } := by
  have q := PySem.IsL.update e f
  rw [hf] at q
  refine I.write (x := l) (e := l) (by rw [hH]; exact trivial) (.inl rfl) (fun b' u hb hu => (Heap.get?_update_other s.heap (Obj.mapSeq f) (Ne.symm hb)).trans hu) ⟨_, q⟩ ?_
  exact ⟨hz, its', _, hv, q⟩
theorem Inv.lnew {its : List Value} {t' : Nat} (I : Inv X pins σ H s) (hv : Vals ys its) (hz : ys.length ≤ sizeLine) :
    Inv X pins σ (upd H s.heap.objs.size (.lst ys)) { s with heap := s.heap.push { cls := .type "list", data := .seq its.toArray }, toks := t' } :=
  I.laid (fun _ _ q => Heap.get?_push_of_some _ q) (Nat.le_refl _) ⟨hz, its, 0, hv, Heap.get?_push_size _ rfl⟩
theorem Inv.fresh (I : Inv X pins σ H s) : H s.heap.objs.size = none := I.hok.fresh (Nat.le_refl _)
theorem Inv.lstM (I : Inv X pins σ H s) (hH : H l = some (.lst xs)) : xs.length ≤ sizeLine ∧ ∃ (its : List Value) (n : Nat), Vals xs its ∧ xs.length = its.length ∧ s.heap.get? l = some { cls := .type "list", data := .seq its.toArray n } := by
  obtain ⟨z, its, n, r, e⟩ := I.hok l _ hH
  exact ⟨z, its, n, r, r.length, e⟩
theorem notLongL {n : Nat} (h : n ≤ sizeLine) : Builtin.List.listTooLong n = false := by
  unfold Builtin.List.listTooLong
  exact decide_eq_false (by omega)
end
section
variable {X : Cx}
def rAppend : V → List V → Hp → VK → Prop := fun x vs H Q => ∃ l xs y, x = .ref l ∧ vs = [y] ∧ H l = some (.lst xs) ∧ xs.length < sizeLine ∧ Q .non (upd H l (.lst (xs ++ [y])))
theorem mt_append : MtM X "list.append" rAppend := by
  intro pins s σ H x vs v us Q I rx rv h
  obtain ⟨l, xs, y, rfl, rfl, hH, hz, q⟩ := h
  cases rx
  obtain ⟨u, rfl, ru⟩ := rv.one
  obtain ⟨z, its, n, r, hl, e⟩ := I.lstM hH
  refine call_meets F.slot_list_append ⟨_, e, rfl⟩ F.entry_list_append (F.args_list_append_2 _ _) (PySem.list_append l its.toArray n u (by rw [List.size_toArray]; omega)) ⟨e, ?_⟩
  refine ⟨.non, _, I.lset (its' := its ++ [u]) hH e (by simp) (r.append (.cons ru .nil)) ?_, rfl, q⟩
  rw [List.length_append, List.length_singleton]
  omega
def rExtend : V → List V → Hp → VK → Prop := fun x vs H Q => ∃ l b xs zs, x = .ref l ∧ vs = [.ref b] ∧ H l = some (.lst xs) ∧ H b = some (.lst zs) ∧ xs.length + zs.length ≤ sizeLine ∧ Q .non (upd H l (.lst (xs ++ zs)))
theorem mt_extend : MtM X "list.extend" rExtend := by
  intro pins s σ H x vs v us Q I rx rv h
  obtain ⟨l, b, xs, zs, rfl, rfl, hH, hB, hz, q⟩ := h
  cases rx
  obtain ⟨u, rfl, ru⟩ := rv.one
  cases ru
  obtain ⟨z, its, n, r, hl, e⟩ := I.lstM hH
  obtain ⟨z2, its2, n2, r2, hl2, e2⟩ := I.lstM hB
  have hsz : its.toArray.size + its2.toArray.size ≤ sizeLine := by rw [List.size_toArray, List.size_toArray]; omega
  have hlong : ¬ (!its.toArray.isEmpty && Builtin.List.listTooLong (its.toArray.size + its2.toArray.size)) = true := by
    rw [notLongL hsz, Bool.and_false]
    exact Bool.false_ne_true
  refine call_meets F.slot_list_extend ⟨_, e, rfl⟩ F.entry_list_extend (F.args_list_extend_2 _ _)
    (AutoSeq1.list_extend_list_list_0 l its.toArray n b its2.toArray n2 hlong (by rw [List.size_toArray]; omega) (by omega)) ⟨e, e2, ?_⟩
  refine ⟨.non, _, I.lset (its' := its ++ its2) hH e (by simp) (r.append r2) ?_, rfl, q⟩
  rw [List.length_append]
  omega
def rPop : V → List V → Hp → VK → Prop := fun x vs H Q => ∃ l xs y, x = .ref l ∧ vs = [] ∧ H l = some (.lst xs) ∧ xs[xs.length - 1]? = some y ∧ Q y (upd H l (.lst xs.dropLast))
theorem mt_pop : MtM X "list.pop" rPop := by
  intro pins s σ H x vs v us Q I rx rv h
  obtain ⟨l, xs, y, rfl, rfl, hH, hy, q⟩ := h
  cases rx
  have hus := rv.zero
  subst hus
  obtain ⟨z, its, n, r, hl, e⟩ := I.lstM hH
  obtain ⟨u, hu, ru⟩ := r.get hy
  have hy' : its.toArray[its.toArray.size - 1]? = some u := by
    show its.toArray[its.length - 1]? = some u
    rw [← Array.getElem?_toList, ← hl]
    exact hu
  refine call_meets F.slot_list_pop ⟨_, e, rfl⟩ F.entry_list_pop (F.args_list_pop_1 _) (MeetsSeq.list_pop_last l its.toArray n u hy' (by rw [List.size_toArray]; omega)) ⟨e, ?_⟩
  refine ⟨y, _, I.lset (its' := its.dropLast) hH e ?_ r.dropLast ?_, ru, q⟩
  · show its.toArray.eraseIdxIfInBounds (its.toArray.size - 1) = its.dropLast.toArray
    rw [List.size_toArray, List.eraseIdxIfInBounds_toArray, erase_last]
  · rw [List.length_dropLast]
    omega
def rPopAt : V → List V → Hp → VK → Prop := fun x vs H Q => ∃ l xs i k y, x = .ref l ∧ vs = [.int i] ∧ H l = some (.lst xs) ∧ -(2 ^ 63) ≤ i ∧ i < 2 ^ 63 ∧ seqIndex? i xs.length = some k ∧ xs[k]? = some y ∧ Q y (upd H l (.lst (xs.eraseIdx k)))
def rReverse : V → List V → Hp → VK → Prop := fun x vs H Q => ∃ l xs, x = .ref l ∧ vs = [] ∧ H l = some (.lst xs) ∧ Q .non (upd H l (.lst xs.reverse))
def rClear : V → List V → Hp → VK → Prop := fun x vs H Q => ∃ l xs, x = .ref l ∧ vs = [] ∧ H l = some (.lst xs) ∧ Q .non (upd H l (.lst []))
def rCat : R2 := fun x y H Q => ∃ l b xs zs, x = .ref l ∧ y = .ref b ∧ H l = some (.lst xs) ∧ H b = some (.lst zs) ∧ xs.length + zs.length ≤ sizeLine ∧ ∀ p, H p = none → Q (.ref p) (upd H p (.lst (xs ++ zs)))
theorem op_cat : OpR X (binaryOp .Add) rCat := by
  intro pins s σ H x y v u Q I rx ry h
  obtain ⟨l, b, xs, zs, rfl, rfl, hH, hB, hz, q⟩ := h
  cases rx
  cases ry
  obtain ⟨z, its, n, r, hl, e⟩ := I.lstM hH
  obtain ⟨z2, its2, n2, r2, hl2, e2⟩ := I.lstM hB
  refine PySem.P.add_list e e2 ?_ (by rw [List.size_toArray, List.size_toArray]; omega)
  have ea : its.toArray ++ its2.toArray = (its ++ its2).toArray := by simp
  rw [ea]
  exact ⟨.ref _, _, I.lnew (t' := s.toks) (r.append r2) (by rw [List.length_append]; omega), rfl, q _ I.fresh⟩
def rRep : R2 := fun x y H Q => ∃ l k xs, x = .ref l ∧ y = .int k ∧ H l = some (.lst xs) ∧ -(2 ^ 63) ≤ k ∧ k < 2 ^ 63 ∧ xs.length * k.toNat ≤ sizeLine ∧
  ∀ p, H p = none → Q (.ref p) (upd H p (.lst (List.replicate k.toNat xs).flatten))
theorem len_rep {α : Type} (xs : List α) (k : Nat) : (List.replicate k xs).flatten.length = k * xs.length := by
  induction k with
  | zero => simp
  | succ k ih => rw [List.replicate_succ, List.flatten_cons, List.length_append, ih, Nat.succ_mul, Nat.add_comm]
theorem op_rep : OpR X (binaryOp .Mult) rRep := by
  intro pins s σ H x y v u Q I rx ry h
  obtain ⟨l, k, xs, rfl, rfl, hH, h1, h2, hz, q⟩ := h
  cases rx
  obtain ⟨t, rfl⟩ := ry
  obtain ⟨z, its, n, r, hl, e⟩ := I.lstM hH
  have hlen : its.toArray.size * k.toNat ≤ sizeLine := by rw [List.size_toArray, ← hl]; exact hz
  have hcap : ¬ its.toArray.size * k.toNat > (2 ^ 63 - 1) / 8 := by
    have : (sizeLine : Nat) ≤ (2 ^ 63 - 1) / 8 := by decide
    omega
  have hfit : ¬ (!Builtin.List.listFitsIndex k) = true := by
    rw [fitsIndex_both h1 h2]
    exact Bool.false_ne_true
  have hlong : ¬ Builtin.List.listTooLong (its.toArray.size * k.toNat) = true := by
    rw [notLongL hlen]
    exact Bool.false_ne_true
  have hnew : List.foldl (fun x1 x2 => x1 ++ x2) #[] (List.replicate (if its.toArray.isEmpty = true then 0 else k.toNat) its.toArray) = (List.replicate k.toNat its).flatten.toArray := by
    have f0 : ∀ m : Nat, List.foldl (fun x1 x2 => x1 ++ x2) #[] (List.replicate m its.toArray) = (List.replicate m its).flatten.toArray := fun m => by
      have := foldl_rep its m []
      rw [List.nil_append] at this
      exact this
    rw [f0]
    cases its with
    | nil => simp
    | cons a r' => rw [if_neg (by simp)]
  refine wpAny_binaryOp_repeat_ref (T := "list") (U := "int") (by decide) ⟨_, e, rfl⟩ (fun s' => typeIs_int s' k t) noFill_list_mul F.fills_int_mul F.slot_int_rmul repeat_list F.slot_int_index.lookup
    (call_meets F.slot_int_rmul (typeIs_int s k t) F.entry_int_rmul (F.args_int_rmul_2 _ _) (int___rmul___int_list k t l its.toArray n)
      ⟨e, rfl, ⟨_, e, rfl⟩, call_meets F.slot_list_mul ⟨_, e, rfl⟩ F.entry_list_mul (F.args_list_mul_2 _ _) (AutoListH.list___mul___list_int_3 l its.toArray n k t hfit hcap hlong) ⟨e, ?_⟩⟩)
  rw [hnew]
  exact ⟨.ref _, _, I.lnew (t' := s.toks) (r.rep k.toNat) (by rw [len_rep, Nat.mul_comm]; exact hz), rfl, q _ I.fresh⟩
end
section
variable {prog : Program} {w : World} {A : Around} {E : Value → Shared → Prop} {s : Shared}
theorem bounds_run {a c n : Nat} (hac : a ≤ c) (hc : c ≤ n) : sliceBounds (some (a : Int)) (some (c : Int)) none n = ((a : Int), (c : Int), 1) := by
  simp only [sliceBounds, Option.getD_none]
  have h1 : ¬ ((a : Int) < 0) := by omega
  have h2 : ¬ ((c : Int) < 0) := by omega
  simp only [h1, h2, if_false, show (1 : Int) > 0 by decide, if_true]
  congr 1
  · omega
  · congr 1; omega
set_option maxRecDepth 100000 in
theorem setItem_slice {l b sl : Addr} {items new : Array Value} {n n2 : Nat} {vl vu : Value} {a c : Nat} {Q : Unit → Shared → Prop}
    (e : s.heap.get? l = some { cls := .type "list", data := .seq items n }) (e2 : s.heap.get? b = some { cls := .type "list", data := .seq new n2 }) (hne : l ≠ b)
    (hs : s.heap.IsSliceOf sl vl vu .none) (pl : IsPart vl (some (a : Int))) (pu : IsPart vu (some (c : Int))) (hac : a ≤ c) (hc : c ≤ items.size)
    (hsz : items.size + new.size ≤ sizeLine) (h : Q () { s with heap := s.heap.update l (Obj.mapSeq fun xs => xs.extract 0 a ++ new ++ xs.extract c xs.size) }) :
    wpAny (model prog w) A (setItem (.ref l) (.ref sl) (.ref b)) Q E s := by
  have hl : s.heap.IsList l items := PySem.IsL.isList e
  have hb : s.heap.IsList b new := PySem.IsL.isList e2
  obtain ⟨os, hos, hcs, hds⟩ := id hs
  have hTs : s.TypeIs (.ref sl) "slice" := ⟨os, hos, hcs⟩
  have hstep : ¬ ((rawPart none == rawInt 0) = true) := Bool.false_ne_true
  have hsame : Builtin.List.listSameRef (.ref l) (.ref b) = false := by
    unfold Builtin.List.listSameRef
    exact beq_eq_false_iff_ne.mpr hne
  have hmax : (max (a : Int) (c : Int)).toNat = c := by omega
  have hz' : ((fun xs : Array Value => xs.extract 0 a ++ new ++ xs.extract c xs.size) items).size ≤ sizeLine + 1 := by
    simp only [Array.size_append, Array.size_extract]
    omega
  unfold setItem
  try with_reducible refine wpAny_holding ?_
  first | refine wpAny_bind (wpAny_pure ?_) | skip
  refine wpAny_bind (wpAny_sequenceKey hl.typeIs (by decide) ?_)
  refine wpAny_bind (wpAny_callSpecial?_slot (name := Str.ofString "__setitem__") hl.typeIs slot_list_setitem
    (wpAny_call_entry slot_list_setitem hl.typeIs entry_list_setitem ?_ (args_list_setitem _ _ _)))
  show wpAny _ _ (Builtin.List.listSubscript? (.ref sl) >>= _) _ _ s
  refine wpAny_bind ?_
  unfold Builtin.List.listSubscript?
  refine wpAny_bind (wpAny_specialOf hTs slice_no_index ?_)
  simp only [Option.isNone_none, if_true]
  refine wpAny_pure ?_
  show wpAny _ _ (typeOf (.ref sl) >>= _) _ _ s
  refine wpAny_bind (wpAny_typeOf hTs ?_)
  first
    | rw [if_neg (by decide)]
    | refine PySem.W.KFB.if_not (by decide) ?_
  rw [listSliceParts_eq]
  refine wpAny_bind (wpAny_bind (wpAny_field hos hds (x := .none) rfl (wpAny_bind (wpAny_listPart .none ?_))))
  rw [if_neg hstep]
  refine wpAny_bind (wpAny_field hos hds (x := vl) rfl (wpAny_bind (wpAny_listPart pl ?_)))
  refine wpAny_bind (wpAny_field hos hds (x := vu) rfl (wpAny_bind (wpAny_listPart pu (wpAny_pure ?_))))
  first
    | simp only [hsame, Bool.false_eq_true, if_false]
    | refine PySem.W.KFB.if_not hsame ?_
    | (dsimp only
       rw [if_neg (by rw [hsame]; exact Bool.false_ne_true)])
  refine wpAny_bind (m := Builtin.List.listAllItems (.ref b) "must assign iterable to extended slice") ?_
  unfold Builtin.List.listAllItems
  refine wpAny_bind (wpAny_typeOf hb.typeIs ?_)
  first
    | refine PySem.W.KFB.if_so (by decide) ?_
    | rw [if_pos (by decide)]
    | simp only [beq_self_eq_true, Bool.true_or, if_true]
  unfold Builtin.List.listItems
  refine wpAny_bind (wpAny_seqItems e2 rfl (wpAny_pure ?_))
  refine wpAny_bind (wpAny_bind (wpAny_seqItems e rfl (wpAny_pure ?_)))
  refine wpAny_bind (wpAny_of_eq ((sliceIndices_raw (some (a : Int)) (some (c : Int)) none items.size (by simp)).trans (congrArg (pure : Int × Int × Int → Sem (Int × Int × Int)) (bounds_run hac hc))) ?_)
  show wpAny _ _ (if ((1 : Int) == 1) = true then _ else _) _ _ s
  rw [if_pos (by decide)]
  refine wpAny_bind (wpAny_rule ?_)
  first
    | simp only [notLongL hsz, Bool.false_eq_true, if_false]
    | refine PySem.W.KFB.if_not (notLongL hsz) ?_
  first | refine wpAny_bind (wpAny_pure ?_) | skip
  show wpAny _ _ (updateSeq l (fun xs => xs.extract 0 ((a : Int)).toNat ++ new ++ xs.extract (max (a : Int) (c : Int)).toNat xs.size) >>= _) _ _ s
  rw [hmax, Int.toNat_natCast]
  refine wpAny_bind (wpAny_updateSeq (hz := Nat.le_trans (Nat.le_add_right _ _) hsz) (_hz' := hz') e rfl ?_)
  refine wpAny_bind (wpAny_letGo ?_)
  first
    | exact wpAny_bind (wpAny_pure (wpAny_pure ⟨.none, rfl, wpAny_pure h⟩))
    | exact wpAny_pure ⟨.none, rfl, wpAny_pure h⟩
end
section
variable {X : Cx}
end
end L2
namespace L2
open PySem PySem.Spec PyProof.Rows
section
variable {κ : Type} [DecidableEq κ]
def valV (kvs : List (κ × V)) (k : κ) : Option V := (kvs.find? fun kv => decide (kv.1 = k)).map (·.2)
def putK (kvs : List (κ × V)) (k : κ) (v : V) : List (κ × V) :=
  if (kvs.any fun kv => decide (kv.1 = k)) = true then kvs.map (fun kv => if kv.1 = k then (kv.1, v) else kv) else kvs ++ [(k, v)]
def dropK (kvs : List (κ × V)) (k : κ) : List (κ × V) := kvs.filter fun kv => decide (kv.1 ≠ k)
theorem RelO.getD {o : Option V} {u : Option Value} {d : V} {d' : Value} (r : RelO o u) (rd : RelV d d') : RelV (o.getD d) (u.getD d') := by
  cases o with
  | none => cases u with
    | none => exact rd
    | some _ => exact (show False from r).elim
  | some _ => cases u with
    | none => exact (show False from r).elim
    | some _ => exact r
theorem KV.any {kvs : List (κ × V)} {vs : List (κ × Value)} (r : KV kvs vs) (k : κ) : (kvs.any fun kv => decide (kv.1 = k)) = vs.any fun kv => decide (kv.1 = k) := by
  unfold KV at r
  induction r with
  | nil => rfl
  | cons h t ih => rw [List.any_cons, List.any_cons, ih, h.1]
theorem KV.drop {kvs : List (κ × V)} {vs : List (κ × Value)} (r : KV kvs vs) (k : κ) : KV (dropK kvs k) (without vs k) := by
  unfold KV at r ⊢
  unfold dropK without
  induction r with
  | nil => exact .nil
  | @cons p q ps qs h t ih =>
    obtain ⟨h1, h2⟩ := h
    rw [List.filter_cons, List.filter_cons]
    by_cases e : p.1 = k
    · have a : ¬ decide (p.1 ≠ k) = true := by simp [e]
      have b : ¬ decide (q.1 ≠ k) = true := by simp [h1.symm.trans e]
      rw [if_neg a, if_neg b]; exact ih
    · have e' : ¬ q.1 = k := fun z => e (h1.trans z)
      have a : decide (p.1 ≠ k) = true := by simp [e]
      have b : decide (q.1 ≠ k) = true := by simp [e']
      rw [if_pos a, if_pos b]; exact .cons ⟨h1, h2⟩ ih
theorem KV.length {kvs : List (κ × V)} {vs : List (κ × Value)} (r : KV kvs vs) : kvs.length = vs.length := Paired.length r
end
abbrev KT (H : Hp) : List (List Key × V) → List (List Key × Addr × Value) → Prop := Paired fun p q => p.1 = q.1 ∧ H q.2.1 = some (.tup (p.1.map kV)) ∧ RelV p.2 q.2.2
theorem KT.keeps {H H' : Hp} {kvs : List (List Key × V)} {xs : List (List Key × Addr × Value)} (r : KT H kvs xs) (ht : ∀ b ys, H b = some (.tup ys) → H' b = some (.tup ys)) : KT H' kvs xs :=
  Paired.mapP r fun _ _ z => ⟨z.1, ht _ _ z.2.1, z.2.2⟩
section
variable {P : Program} {w : World} {H : Hp} {h : Heap} {a : Addr}
end
def DGet (H : Hp) (a : Addr) (y : V) (r : Option V) : Prop :=
  (∃ kvs k, Rd H a (.dK kvs) ∧ y = kV k ∧ r = valV kvs k) ∨ ∃ kvs k b, Rd H a (.dT kvs) ∧ y = .ref b ∧ H b = some (.tup (k.map kV)) ∧ r = valV kvs k
def DPut (H : Hp) (a : Addr) (y v : V) (H' : Hp) : Prop :=
  (∃ kvs k, H a = some (.dK kvs) ∧ y = kV k ∧ kvs.length < sizeLine ∧ H' = upd H a (.dK (putK kvs k v))) ∨
  ∃ kvs k b, H a = some (.dT kvs) ∧ y = .ref b ∧ H b = some (.tup (k.map kV)) ∧ kvs.length < sizeLine ∧ H' = upd H a (.dT (putK kvs k v))
theorem DGet.k {H : Hp} {a : Addr} {kvs : List (Key × V)} {k : Key} (e : H a = some (.dK kvs)) : DGet H a (kV k) (valV kvs k) := .inl ⟨kvs, k, .inl e, rfl, rfl⟩
theorem DPut.k {H : Hp} {a : Addr} {kvs : List (Key × V)} {k : Key} {v : V} (e : H a = some (.dK kvs)) (hl : kvs.length < sizeLine) : DPut H a (kV k) v (upd H a (.dK (putK kvs k v))) := .inl ⟨kvs, k, e, rfl, hl, rfl⟩
section
variable {X : Cx} {pins : List (Addr × Obj)} {σ : St} {H : Hp} {s : Shared} {a : Addr} {y v : V} {u r : Value} {o : Option V} {A : Around} {E : Value → Shared → Prop}
end
section
variable {X : Cx} {pins : List (Addr × Obj)} {σ : St} {H : Hp} {s : Shared} {a : Addr} {kvs : List (Key × V)} {k : Key} {u : Value} {A : Around} {E : Value → Shared → Prop}
end
def NoSl (i : Expr) : Prop := ∀ ov iv, subscripted i false ov iv = operate [ov, iv] (getItem ov iv)
def tDGet (td ty : TE) : TE := fun σ H Q => td σ H fun x H1 => ty σ H1 fun y H2 => ∃ a v, x = .ref a ∧ DGet H2 a y (some v) ∧ Q v H2
def tDIn (ty td : TE) : TE := fun σ H Q => ty σ H fun y H1 => td σ H1 fun x H2 => ∃ a o, x = .ref a ∧ DGet H2 a y o ∧ Q (.bl o.isSome) H2
def tDNotIn (ty td : TE) : TE := fun σ H Q => ty σ H fun y H1 => td σ H1 fun x H2 => ∃ a o, x = .ref a ∧ DGet H2 a y o ∧ Q (.bl (!o.isSome)) H2
def sDPut (td ty tv : TE) : TS := fun D σ H => tv σ H fun v H1 => td σ H1 fun x H2 => ty σ H2 fun y H3 => ∃ a H4, x = .ref a ∧ DPut H3 a y v H4 ∧ D.nx σ H4
def sDAug (td ty tv : TE) (rd : V → V → Hp → VK → Prop) : TS := fun D σ H => td σ H fun x H1 => ty σ H1 fun y H2 => ∃ a v, x = .ref a ∧ DGet H2 a y (some v) ∧
  tv σ H2 fun y2 H3 => rd v y2 H3 fun z H4 => ∃ H5, DPut H4 a y z H5 ∧ D.nx σ H5
def sDDel (td ty : TE) : TS := fun D σ H => td σ H fun x H1 => ty σ H1 fun y H2 => ∃ a kvs k, x = .ref a ∧ H2 a = some (.dK kvs) ∧ y = kV k ∧ (valV kvs k).isSome = true ∧ D.nx σ (upd H2 a (.dK (dropK kvs k)))
section
variable {X : Cx} {o i e value : Expr} {pos pos' tpos : Pos} {td ty tv : TE}
end
def tDNewK : TE := fun _ H Q => ∀ p, H p = none → Q (.ref p) (upd H p (.dK []))
def tDNewT : TE := fun _ H Q => ∀ p, H p = none → Q (.ref p) (upd H p (.dT []))
section
variable {X : Cx} {pos : Pos}
end
def tPairs : List (TE × TE) → St → Hp → (List (V × V) → Hp → Prop) → Prop
  | [], _, H, Q => Q [] H
  | (tk, tv) :: r, σ, H, Q => tk σ H fun x H1 => tv σ H1 fun y H2 => tPairs r σ H2 fun ps H3 => Q ((x, y) :: ps) H3
abbrev VV : List (V × V) → List (Value × Value) → Prop := Paired fun p q => RelV p.1 q.1 ∧ RelV p.2 q.2
def PPs (X : Cx) (pos : Pos) (keys : List (Option Expr)) (values : List Expr) (trs : List (TE × TE)) : Prop :=
  ∀ (pins : List (Addr × Obj)) (s : Shared) (σ : St) (H : Hp) (Q : List (V × V) → Hp → Prop), Inv X pins σ H s → tPairs trs σ H Q →
    wpAny (model X.prog X.w) X.A (evalPairs (pairTrees keys values X.env pos)) (fun vs s' => ∃ ps H', Inv X pins σ H' s' ∧ VV ps vs ∧ Q ps H') X.xe s
def mergeK (kvs more : List (Key × V)) : List (Key × V) := more.foldl (fun acc kv => putK acc kv.1 kv.2) kvs
def tDisp (trs : List (TE × TE)) : TE := fun σ H Q => ∀ p, H p = none → tPairs trs σ (upd H p (.dK [])) fun ps H2 => H2 p = some (.dK []) ∧ ∃ kvs : List (Key × V), ps = kvs.map (fun kv => (kV kv.1, kv.2)) ∧ kvs.length ≤ 15 ∧ Q (.ref p) (upd H2 p (.dK (mergeK [] kvs)))
structure M1 (X : Cx) (o : Expr) (m : Str) (apos : Pos) (e : Expr) (cpos : Pos) : Prop where
  base : attributeBase o m X.env (eval o X.env) = eval o X.env
  few : ((backTo cpos (starEach [e] X.env)).all (fun x => !x.1) && (backToKw cpos (keywordEach [] X.env)).all (fun x => x.1.isSome)
    && decide (([e] : List Expr).length + ([] : List Keyword).length + (if ([] : List Keyword).isEmpty then 0 else 1) < 30)) = true
  line : (apos.endLine == cpos.line) = true
  trees : backTo cpos (starEach [e] X.env) = [(false, eval e X.env)]
structure M2 (X : Cx) (o : Expr) (m : Str) (apos : Pos) (e f : Expr) (cpos : Pos) : Prop where
  base : attributeBase o m X.env (eval o X.env) = eval o X.env
  few : ((backTo cpos (starEach [e, f] X.env)).all (fun x => !x.1) && (backToKw cpos (keywordEach [] X.env)).all (fun x => x.1.isSome)
    && decide (([e, f] : List Expr).length + ([] : List Keyword).length + (if ([] : List Keyword).isEmpty then 0 else 1) < 30)) = true
  line : (apos.endLine == cpos.line) = true
  trees : backTo cpos (starEach [e, f] X.env) = [(false, eval e X.env), (false, eval f X.env)]
def IsD (H : Hp) (a : Addr) : Prop := (∃ kvs, Rd H a (.dK kvs)) ∨ ∃ kvs, Rd H a (.dT kvs)
section
variable {X : Cx} {pins : List (Addr × Obj)} {σ : St} {H : Hp} {s : Shared} {a : Addr} {y d : V} {u r : Value} {o : Option V} {A : Around} {E : Value → Shared → Prop}
end
def tDGet1 (td ty : TE) : TE := fun σ H Q => td σ H fun x H1 => ∃ a, x = .ref a ∧ IsD H1 a ∧ ty σ H1 fun y H2 => ∃ o, DGet H2 a y o ∧ Q (o.getD .non) H2
def tDGet2 (td ty tx : TE) : TE := fun σ H Q => td σ H fun x H1 => ∃ a, x = .ref a ∧ IsD H1 a ∧ ty σ H1 fun y H2 => tx σ H2 fun z H3 => ∃ o, DGet H3 a y o ∧ Q (o.getD z) H3
def tDPop1 (td ty : TE) : TE := fun σ H Q => td σ H fun x H1 => ∃ a, x = .ref a ∧ IsD H1 a ∧ ty σ H1 fun y H2 => ∃ kvs k v, H2 a = some (.dK kvs) ∧ y = kV k ∧ valV kvs k = some v ∧ Q v (upd H2 a (.dK (dropK kvs k)))
def tDPop2 (td ty tx : TE) : TE := fun σ H Q => td σ H fun x H1 => ∃ a, x = .ref a ∧ IsD H1 a ∧ ty σ H1 fun y H2 => tx σ H2 fun z H3 => ∃ kvs k, H3 a = some (.dK kvs) ∧ y = kV k ∧
  (∀ v, valV kvs k = some v → Q v (upd H3 a (.dK (dropK kvs k)))) ∧ (valV kvs k = none → Q z H3)
section
variable {X : Cx} {o e f : Expr} {apos cpos : Pos} {td ty tx : TE}
end
section
variable {X : Cx} {pins : List (Addr × Obj)} {σ : St} {H : Hp} {s : Shared} {a : Addr} {kvs : List (Key × V)} {A : Around} {E : Value → Shared → Prop}
end
section
variable {X : Cx} {pins : List (Addr × Obj)} {σ : St} {H : Hp} {s : Shared} {a : Addr} {y : V} {u : Value} {A : Around} {E : Value → Shared → Prop}
end
end L2
namespace Att
open PySem PySem.W PySem.Calls PyProof.Rows
theorem ints_of_wellAll {P : Params} {h : Heap} : ∀ (ns : List Int) (vs : List Value), WellAll P h vs (ns.map WData.int) → IntsAre vs ns := by
  intro ns
  induction ns with
  | nil =>
    intro vs w
    rw [List.map_nil] at w
    cases w
    exact .nil
  | cons n ns ih =>
    intro vs w
    rw [List.map_cons] at w
    cases w with
    | cons a b =>
      cases a
      exact .cons _ _ (ih _ b)
theorem script_of {l : OpenLaw} {n : Nat} (hn : l.most = some n) {P : Params} {h : Heap} {args : List WData} {vals : List Value}
    (hpre : l.row.toRowW.claim.pre args = true) (hwl : WellAll P h vals args) :
    ∃ a vs ns, vals = [Value.ref a] ∧ args = [WData.list (ns.map WData.int)] ∧ h.get? a = some { cls := .type "list", data := .seq vs.toArray } ∧ IntsAre vs ns ∧ ns.length ≤ n := by
  have hsh : WShape.hasAll [] args [.list .int] = true := (pre_splitW hpre).1
  have hc : l.pre.holds [] { args := args } = true := (pre_splitW hpre).2
  obtain ⟨d, r, rfl, h1, h2⟩ := hasAllW_cons hsh
  obtain rfl := hasAllW_nil h2
  obtain ⟨xs, rfl, h3⟩ := hasW_list h1
  obtain ⟨ns, rfl⟩ := items_int h3
  have hlen : ns.length ≤ n := by
    unfold OpenLaw.pre at hc
    have h4 : (WTm.not (.lt (.lit (.int (n : Int))) (.len (.arg 0)))).holds [] { args := [.list (ns.map .int)] } = true := by
      have h4 := (holds_andW hc).1
      rw [hn] at h4
      exact h4
    have h5 := condW_of h4 (w_not (w_lt w_lit (w_len_list (w_arg rfl))))
    rw [List.length_map] at h5
    refine Nat.le_of_not_lt fun q => ?_
    have q' : (n : Int) < ((ns.length : Nat) : Int) := by omega
    first
      | (rw [decide_eq_true q'] at h5; exact absurd h5 (by decide))
      | (simp at h5; omega)
  cases hwl with
  | cons w1 w2 =>
    cases w2
    cases w1 with
    | list ho hall => exact ⟨_, _, ns, rfl, rfl, ho, ints_of_wellAll ns _ hall, hlen⟩
theorem post_true (l : OpenLaw) (args : List WData) : l.row.toRowW.claim.post args (.bool true) args = true :=
  postW_of (r := l.row.toRowW) (X := (true == true))
    (show WShape.has [] (.bool true) .bool = true by first | rfl | decide | simp [WShape.has, WShape.arms, WShape.armsAll])
    (show (WTm.eq .res (.lit (.bool true))).value [] { args := args, res := some (.bool true), after := args } = some (.bool (true == true)) from w_eq_bool (w_res rfl) w_lit) rfl
theorem attach_call {l : OpenLaw} {n : Nat} {q : Program} {loose : List Str} {XP : (Str → Option Value) → Heap → Prop} {YP : World → Heap → Prop} {d : DefRec}
    (hn : l.most = some n) (hdf : d.params.defaults = [])
    (call : ∀ (w : World) (s₀ s₁ : Shared) (mg mb : Str → Option Value) (fa : Addr) (o : Obj) (pm cd doc : Value) (a : Addr) (vs : List Value) (ns : List Int),
      Ground q loose [] XP w s₀ mg mb s₁.heap → YP w s₁.heap →
      s₁.heap.get? fa = some o → o.data = .func (docDef d.name d.params d.body d.scope pm cd doc) → s₁.heap.CodeRec cd d.name → mg d.name = some (.ref fa) →
      s₁.heap.get? a = some { cls := .type "list", data := .seq vs.toArray } → IntsAre vs ns → ns.length ≤ n → s₁.gens = #[] →
      codeAny (model l.prog w) callerA (.call (.ref fa) ⟨[.ref a], []⟩) (fun r s' => r = .ok (.ret (.bool true)) ∧ OldK s₁.heap s'.heap ∧ s'.os = s₁.os ∧ AllBare s'.gens) s₁) :
    WalkO q loose XP YP l.row.toRowW d [] (fun f vs => PySem.call f vs) := by
  intro w s₀ s₁ mg mb G Y fa o pm cd doc dV kV ho hd hcd hD hmg hg args vals as hpre hlay hrd hwl hlo
  obtain rfl : dV = .none := Dflts.none hD hdf
  obtain rfl : kV = .none := Dflts.noKw hD
  obtain ⟨a, vs, ns, rfl, rfl, hobj, hints, hlen⟩ := script_of hn hpre hwl
  refine enter_call (codeAny_mono (call w s₀ s₁ mg mb fa o pm cd doc a vs ns G Y ho (fd_plain hd) hcd hmg hobj hints hlen hg) fun r s' hq => ?_)
  obtain ⟨rfl, h2, h3, h4⟩ := hq
  exact ⟨.inl ⟨.bool true, .bool true, [], rfl, fun _ => rfl, .bool true, post_true l _, fun _ => ⟨List.Pairwise.nil, fun _ hm => (nomatch hm)⟩⟩, h2, h3, h4⟩
section
variable {prog : Program} {w : World} {A : Around} {E : Value → Shared → Prop} {s : Shared} {K : Frag}
def noObjs (h : Heap) : Heap := { h with objs := #[] }
def ledger (h : Heap) (L d : Addr) : List (Addr × Obj) := (List.range h.objs.size).filterMap fun a => if a = L ∨ a = d then none else (h.get? a).map fun o => (a, o)
end
end Att
namespace L2
open PySem PySem.Spec PyProof.Rows
theorem vals_ints : ∀ {vs : List Value} {ns : List Int}, IntsAre vs ns → Vals (ns.map V.int) vs
  | _, _, .nil => .nil
  | _, _, .cons n t h => .cons ⟨t, rfl⟩ (vals_ints h)
def Only (H : Hp) : Prop := ∀ b, H b = none ∨ ∃ o xs, H b = some (.frz o (.lst xs))
theorem law_call {P : Program} {w : World} {K : PySem.W.Frag} {mg mb : Str → Option Value} {CX : CXT} {k : Nat} {fa a : Addr} {fd : FuncData} {x : Str} {sp : Sp} {s₁ : Shared} {vs : List Value} {ns : List Int}
    (KX : K.In s₁.heap) (hns : s₁.heap.Ns mainGlobals mg) (hb : s₁.heap.Ns builtinsNs mb) (hbb : ∀ x : Str, x ≠ "__name__" → mb x = bootBuiltins x) (hlim : s₁.heap.NoLimit) (hg : s₁.gens = #[])
    (ha : s₁.heap.get? a = some { cls := .type "list", data := .seq vs.toArray }) (hi : IntsAre vs ns) (hl : ns.length ≤ sizeLine) (hr : Room k callerA)
    (F : ∀ base : Heap, K.In base → base.Ns mainGlobals mg → FnOk P w K mg base CX k fa fd [x] sp) (hbind : ∀ (s : Shared) (u : Value), BindsTo s fd ⟨[u], []⟩ [(x, u)])
    (hsp : ∀ H : Hp, Only H → SqL K H a (ns.map V.int) → sp [.ref a] H (fun v _ => v = .bl true) fun _ _ _ => False)
    (hCX : ∀ H e s', CX [] H s₁ (fun _ _ _ => False) e s' → False) :
    codeAny (model P w) callerA (.call (.ref fa) ⟨[.ref a], []⟩) (fun r s' => r = .ok (.ret (.bool true)) ∧ OldK s₁.heap s'.heap ∧ s'.os = s₁.os ∧ AllBare s'.gens) s₁ := by
  have rv := vals_ints hi
  have lenV := hi.length
  -- from an abstract heap in which nothing but the script may be tracked
  have core : ∀ H : Hp, Only H → SqL K H a (ns.map V.int) → HOk P w H s₁.heap → (∀ b, H b ≠ none → b = a) → (H a ≠ none → K.lookup a = none) →
      codeAny (model P w) callerA (.call (.ref fa) ⟨[.ref a], []⟩) (fun r s' => r = .ok (.ret (.bool true)) ∧ OldK s₁.heap s'.heap ∧ s'.os = s₁.os ∧ AllBare s'.gens) s₁ := by
    intro H hO hS hok hA hK
    have base_of : ∀ {b : Addr} {o : Obj}, s₁.heap.get? b = some o → H b = none → (hidT s₁.heap H).get? b = some o := fun e n => hidT_get e n
    have noA : ∀ {b : Addr} {o : Obj} {es : Array DictEntry} {ep : Nat}, s₁.heap.get? b = some o → o.data = .dict es ep → H b = none := fun {b o es ep} e d => by
      cases q : H b with
      | none => rfl
      | some u =>
        have e' : b = a := hA b (by rw [q]; simp)
        subst e'
        rw [ha] at e; cases e
        have d' : Data.seq vs.toArray _ = Data.dict es ep := d
        cases d'
    have nsK : ∀ {b : Addr} {m : Str → Option Value}, s₁.heap.Ns b m → (hidT s₁.heap H).Ns b m := fun {b m} ⟨o, es, ep, e, d, r⟩ => ⟨o, es, ep, base_of e (noA e d), d, r⟩
    have hKb : K.In (hidT s₁.heap H) := fun b o e => base_of (KX b o e) (by
      cases q : H b with
      | none => rfl
      | some u =>
        have e' : b = a := hA b (by rw [q]; simp)
        subst e'
        rw [hK (by rw [q]; simp)] at e; cases e)
    have hM : Mod K mg (hidT s₁.heap H) := ⟨hKb, nsK hns, ⟨mb, nsK hb, hbb⟩, let ⟨mc, h1, h2⟩ := hlim; ⟨mc, nsK h1, h2⟩⟩
    have e0 : Env0 P w K mg (hidT s₁.heap H) callerA [] s₁ H := ⟨rfl, hM, fun b o e => of_hidT e, Nat.le_of_eq (hidT_size _ _), trivial, fun b hb => absurd (show b ∈ ([] : List Addr) from hb) (by simp), hok, .of_eq hg⟩
    refine codeAny_mono ((F _ hKb (nsK hns)).run callerA [] s₁ H ⟨[.ref a], []⟩ [.ref a] [.ref a] _ _ hr e0 (hbind s₁ (.ref a)) (.cons rfl .nil) (hsp H hO hS)) fun r s' h => ?_
    cases r with
    | error e => exact (hCX H e s' h).elim
    | ok fl =>
      cases fl with
      | next => exact False.elim h
      | brk => exact False.elim h
      | cont => exact False.elim h
      | ret u =>
        obtain ⟨v, H', os, bare, un, hok', r', q⟩ := h
        have q' : v = .bl true := q
        subst q'
        obtain rfl : u = Value.bool true := r'
        refine ⟨rfl, OldK.of_keep fun b o e => ?_, os, bare⟩
        cases q : H b with
        | none => exact un.keep b o e q (by intro z; exact absurd (show b ∈ ([] : List Addr) from z) (by simp)) (by simp)
        | some u =>
          rcases hO b with z | ⟨ob, xs, z⟩
          · rw [q] at z; cases z
          · have z2 := un.frzs b ob _ z
            obtain ⟨e1, _⟩ := hok b _ z
            obtain ⟨e2, _⟩ := hok' b _ z2
            rw [e] at e1; cases e1
            exact e2
  cases hk : K.lookup a with
  | some o =>
    -- the script is one of the module's own objects
    have e := KX a o hk
    rw [ha] at e
    cases e
    refine core (fun _ => none) (fun _ => .inl rfl) (.inr ⟨_, vs.toArray, _, hk, rfl, rfl, rfl, by rw [List.size_toArray, lenV]; exact hl, by simpa using rv⟩) (fun b u z => by have z' : (none : Option HO) = some u := z; cases z') (fun b z => absurd rfl z) fun z => absurd rfl z
  | none =>
    refine core (fun b => if b = a then some (.frz { cls := .type "list", data := .seq vs.toArray } (.lst (ns.map V.int))) else none) (fun b => ?_) (.inl (.inr ⟨{ cls := .type "list", data := .seq vs.toArray }, if_pos rfl⟩)) (fun b u z => ?_) (fun b z => ?_) fun _ => hk
    · by_cases hb : b = a
      · exact .inr ⟨_, _, if_pos hb⟩
      · exact .inl (if_neg hb)
    · by_cases hb : b = a
      · have z' := (if_pos hb).symm.trans z
        cases z'
        subst hb
        exact ⟨ha, by rw [List.length_map]; exact hl, vs, _, rv, ha⟩
      · have z' := (if_neg hb).symm.trans z
        cases z'
    · by_cases hb : b = a
      · exact hb
      · exact absurd (if_neg hb) z
end L2
namespace L2
open PySem PySem.Spec PyProof.Rows
abbrev KOf {K : PySem.W.Frag} {h : Heap} (_ : K.In h) : PySem.W.Frag := K
theorem walk_of {l : PySem.W.OpenLaw} {n k : Nat} {q : Program} {loose : List Str} {XP : (Str → Option Value) → Heap → Prop} {YP : World → Heap → Prop} {d : DefRec} {K : Params → PySem.W.Frag} {CX : World → CXT} {sp : World → Sp} {x : Str}
    (hn : l.most = some n) (hn2 : n ≤ sizeLine) (hdf : d.params.defaults = []) (hr : Room k callerA)
    (hY : ∀ (w : World) (h : Heap), YP w h → (K w.params).In h)
    (F : ∀ (w : World) (mg : Str → Option Value) (fa : Addr) (h : Heap), (K w.params).In h → h.Ns mainGlobals mg → mg d.name = some (.ref fa) →
      ∃ fd : FuncData, (∀ (s : Shared) (u : Value), BindsTo s fd ⟨[u], []⟩ [(x, u)]) ∧
        ∀ base : Heap, (K w.params).In base → base.Ns mainGlobals mg → FnOk l.prog w (K w.params) mg base (CX w) k fa fd [x] (sp w))
    (hsp : ∀ (w : World) (H : Hp) (a : Addr) (ns : List Int), ns.length ≤ n → Only H → SqL (K w.params) H a (ns.map V.int) → sp w [.ref a] H (fun v _ => v = .bl true) fun _ _ _ => False)
    (hCX : ∀ (w : World) (H : Hp) (s : Shared) (e : Value) (s' : Shared), CX w [] H s (fun _ _ _ => False) e s' → False) :
    PySem.W.WalkO q loose XP YP l.row.toRowW d [] (fun f vs => PySem.call f vs) := by
  refine Att.attach_call hn hdf fun w s₀ s₁ mg mb fa o pm cd doc a vs ns G Y ho hd hcd hmg hobj hints hlen hg => ?_
  have KX := hY w _ Y
  obtain ⟨fd, hb, hF⟩ := F w mg fa _ KX G.T.g hmg
  exact law_call KX G.T.g G.T.b G.T.builtins G.T.nolimit hg hobj hints (Nat.le_trans hlen hn2) hr hF hb (fun H hO hS => hsp w H a ns hlen hO hS) fun H e s' => hCX w H s₁ e s'
end L2
/- THE LAST THEOREM (shape; LID, My.* are yours):
   My.Adr: a structure of the addresses that your layer names (classes, functions); My.Txt K t: a structure (Prop) of the equations over K;
   My.txt_mk : {K} {implicit addresses ..} (e1 : nsIn K mainGlobals "law" = some (some (.ref f))) (e2 : K.lookup f = some ⟨oc, od, .func (fnOf "law" "law" params body scope dV kV doc pm an cdv ct), sl⟩) (e3 : codeIn K cdv "law" = true) .. : ∃ t, My.Txt K t
set_option maxRecDepth 100000 in
set_option maxHeartbeats 0 in
theorem PySem.Challenge.cw_LID_holds : PySem.Challenge.rw_LID.Holds := by
  w_on; o_law; k_head; (case hw => w_witness2)
  k_fill
  refine L2.walk_of (l := PySem.Challenge.rw_LID) (n := 63) (k := 40) (x := "script") (CX := fun w => ..) (sp := fun _ => My.sp_law) rfl (by decide) rfl ⟨rfl, by decide, by decide⟩ (fun w h Y => PySem.W.kIn_of Y) ?F ?S ?C
  case F =>
    intro w mg fa h KX G hmg
    have T : ∃ t, My.Txt (L2.KOf KX) t := by
      dsimp only [L2.KOf]                          -- K must stand as «<heap const> w.params» for k_is
      refine' My.txt_mk ?e1 ?e2 ?e3 ..
      (case e1 => PySem.W.k_is)                    -- in the order: a name -> its address -> its object -> its parts
      (case e2 => PySem.W.k_is)
      ..
    obtain ⟨t, T⟩ := T
    have e0 := hmg.symm.trans (PySem.W.mg_of KX G T.law)
    cases e0                                       -- fa is the law's own address
    exact ⟨_, fun s u => .of_eq rfl, fun base kb nb => My.law_fn T kb nb⟩     -- if «.of_eq rfl» comes too early: refine' ⟨_, ?b, fun base kb nb => My.law_fn T kb nb⟩; exact fun s u => .of_eq rfl
  case S => exact fun w H a ns hl hO hS => ..
  case C => exact ..
(the tactic k_is has no namespace: write k_is) -/
namespace L2
open PySem PySem.Spec PyProof.Rows
def inClass (s : Stmt) (j : Nat) : Stmt := match s with
  | .ClassDef _ _ _ body _ _ _ _ _ _ _ => body.getD j (.Pass ⟨0, 0, 0, 0⟩)
  | _ => .Pass ⟨0, 0, 0, 0⟩
def defArgs (s : Stmt) : Arguments := match s with
  | .FunctionDef _ a _ _ _ _ _ _ _ _ => a
  | _ => { posonlyargs := [], args := [], vararg := none, kwonlyargs := [], kw_defaults := [], kwarg := none, defaults := [] }
def defBody (s : Stmt) : List Stmt := match s with
  | .FunctionDef _ _ b _ _ _ _ _ _ _ => b
  | _ => []
def defScope (s : Stmt) : Scope := match s with
  | .FunctionDef _ _ _ _ _ _ sc _ _ _ => sc
  | _ => { kind := .function, names := [], isGenerator := false, isCoroutine := false }
abbrev CX0 : CXT := fun _ _ _ _ _ _ => False
abbrev E0 : XK := fun _ _ _ => False
theorem pass0 {X : Cx} : Passes CX0 X E0 := fun _ _ _ _ _ _ _ h => h.elim
structure Fun (K : PySem.W.Frag) (x qual : Str) (st : Stmt) (f : Addr) (fd : FuncData) : Prop where
  ex : ∃ (oc : Value) (od : Option Addr) (kV doc pm : Value) (an : Option Addr) (cdv ct : Value) (osl : Array (Option Value)),
    fd = PySem.W.fnOf x qual (defArgs st) (defBody st) (defScope st) .none kV doc pm an cdv ct ∧ K.lookup f = some ⟨oc, od, .func fd, osl⟩ ∧ PySem.W.codeIn K cdv qual = true
  kp : PySem.W.keepIn K (.ref f) = true
section
variable {P : Program} {w : World} {K : PySem.W.Frag} {mg : Str → Option Value} {base : Heap}
theorem Fun.ok {x qual : Str} {st : Stmt} {f : Addr} {fd : FuncData} {N ps : List Str} {k : Nat} {sp : Sp} (F : Fun K x qual st f fd) (S : FnScope N ps (defScope st)) (len : ∀ vs H Q E, sp vs H Q E → vs.length = ps.length)
    (hbody : ∀ (cdv : Value) (A : Around) (outer : List Env) (s : Shared) (H : Hp) (vs : List V) (Q : VK) (E : XK), Room k (A.deeper (envOfC qual (defScope st) s.heap.objs.size f cdv)) → sp vs H Q E →
      ∃ t, PSs (cxOf CX0 P w K mg base N qual (defScope st) f cdv A outer s H E).nox (defBody st) t ∧ t { nx := fun _ H' => Q .non H', rt := Q } (start N vs) H) : FnOk P w K mg base CX0 (k + 1) f fd ps sp := by
  obtain ⟨oc, od, kV, doc, pm, an, cdv, ct, osl, rfl, lk, hcd⟩ := F.ex
  refine fn_of lk hcd S len fun A outer s H vs Q E hr hsp => ?_
  obtain ⟨t, h, q⟩ := hbody cdv A outer s H vs Q E hr hsp
  exact ⟨t, h.nox, q⟩
theorem Fun.binds {x qual : Str} {st : Stmt} {f : Addr} {fd : FuncData} {ps : List Str} (F : Fun K x qual st f fd)
    (h : ∀ (kV doc pm : Value) (an : Option Addr) (cdv ct : Value) (us : List Value), us.length = ps.length → bindArgs (PySem.W.fnOf x qual (defArgs st) (defBody st) (defScope st) .none kV doc pm an cdv ct) ⟨us, []⟩ = pure (ps.zip us)) : Binds K fd ps [] := by
  obtain ⟨oc, od, kV, doc, pm, an, cdv, ct, osl, rfl, lk, hcd⟩ := F.ex
  exact .all (h kV doc pm an cdv ct)
theorem fun_mk {x qual : Str} {st : Stmt} {f : Addr} {oc : Value} {od an : Option Addr} {osl : Array (Option Value)} {kV doc pm cdv ct : Value} (l : K.lookup f = some ⟨oc, od, .func (PySem.W.fnOf x qual (defArgs st) (defBody st) (defScope st) .none kV doc pm an cdv ct), osl⟩)
    (c : PySem.W.codeIn K cdv qual = true) (k : PySem.W.keepIn K (.ref f) = true) : Fun K x qual st f (PySem.W.fnOf x qual (defArgs st) (defBody st) (defScope st) .none kV doc pm an cdv ct) := ⟨⟨oc, od, kV, doc, pm, an, cdv, ct, osl, rfl, l, c⟩, k⟩
end
theorem small1000 {n : Nat} (h : n ≤ 1000) : n < sizeLine := Nat.lt_of_le_of_lt h (by decide)
section
variable {X : Cx}
theorem pv (i : Nat) {x : Str} {pos : Pos} (hN : X.N[i]? = some x := by rfl) (hv : Vis X.env.scope x := by first | exact Or.inl rfl | exact Or.inr (Or.inl rfl) | exact Or.inr (Or.inr rfl)) (hd : (x == ("__debug__" : Str)) = false := by decide)
    (hcd : (x == ("__classdict__" : Str)) = false := by decide) : PE X (.Name x pos) (tVar i) := pe_var hN hv hd hcd
end
theorem iteF {A B : Prop} (h : B) : if false = true then A else B := by
  rw [if_neg Bool.false_ne_true]
  exact h
theorem iteT {A B : Prop} (h : A) : if true = true then A else B := by
  rw [if_pos rfl]
  exact h
theorem ite2 {c A B : Prop} [Decidable c] (h1 : c → A) (h2 : ¬ c → B) : if c then A else B := by
  by_cases h : c
  · rw [if_pos h]
    exact h1 h
  · rw [if_neg h]
    exact h2 h
def Same (H H' : Hp) : Prop := ∀ b o, H b = some o → H' b = some o
theorem Same.refl (H : Hp) : Same H H := fun _ _ h => h
theorem Same.trans {H H1 H2 : Hp} (a : Same H H1) (b : Same H1 H2) : Same H H2 := fun c o h => b c o (a c o h)
theorem Same.free {H H' : Hp} (e : Same H H') {l : Addr} (h : H' l = Option.none) : H l = Option.none := by
  cases q : H l with
  | none => rfl
  | some o =>
    rw [e l o q] at h
    cases h
theorem Same.seq {K : PySem.W.Frag} {H H' : Hp} {a : Addr} {xs : List V} (e : Same H H') (h : SqL K H a xs) : SqL K H' a xs := by
  rcases h with (h | ⟨o, h⟩) | h
  · exact .inl (.inl (e _ _ h))
  · exact .inl (.inr ⟨o, e _ _ h⟩)
  · exact .inr h
end L2
namespace L2
open PySem PySem.Spec PyProof.Rows
section
variable {X : Cx}
end
section
variable {κ : Type} [DecidableEq κ]
end
end L2
set_option maxHeartbeats 4000000
namespace Tn
def upto (n : Nat) : List Int := (List.range n).map fun (i : Nat) => (i : Int)
theorem mem_upto {n : Nat} {w : Int} : w ∈ upto n ↔ 0 ≤ w ∧ w < n := by
  unfold upto
  simp only [List.mem_map, List.mem_range]
  constructor
  · rintro ⟨i, h, rfl⟩; omega
  · rintro ⟨h1, h2⟩; exact ⟨w.toNat, by omega, by omega⟩
structure IsOrd (ns : List Int) : Prop where
  perm : ns.Perm (upto ns.length)
theorem IsOrd.mem {ns : List Int} (h : IsOrd ns) {w : Int} : w ∈ ns ↔ 0 ≤ w ∧ w < ns.length := h.perm.mem_iff.trans mem_upto
theorem IsOrd.rev {ns : List Int} (h : IsOrd ns) : IsOrd ns.reverse := ⟨by
  rw [List.length_reverse]
  exact (List.reverse_perm ns).trans h.perm⟩
def backF (ns : List Int) : List Int := (List.range ns.length).map fun (w : Nat) => (ns.idxOf (w : Int) : Int)
def filled (ns : List Int) (i : Nat) : List Int := (List.range ns.length).map fun (w : Nat) => if ns.idxOf (w : Int) < i then (ns.idxOf (w : Int) : Int) else 0
end Tn
namespace Tn
open PySem
def rvO (tp : Addr) (i : Int) : Obj := { cls := .type "reversed", data := .fields #[.ref tp, rawInt i] }
def IsRv (h : Heap) (a tp : Addr) (i : Int) : Prop := ∃ o, h.get? a = some o ∧ o.cls = .type "reversed" ∧ o.data = .fields #[.ref tp, rawInt i]
theorem IsRv.ty {s : Shared} {a tp : Addr} {i : Int} (x : IsRv s.heap a tp i) : s.TypeIs (.ref a) "reversed" := let ⟨o, ho, hc, _⟩ := x; ⟨o, ho, hc⟩
theorem IsRv.at {h h' : Heap} {a tp : Addr} {i : Int} (x : IsRv h a tp i) (e : ∀ o, h.get? a = some o → h'.get? a = some o) : IsRv h' a tp i := let ⟨o, ho, r⟩ := x; ⟨o, e _ ho, r⟩
section
variable {prog : Program} {w : World} {A : Around} {E : Value → Shared → Prop} {s : Shared}
end
end Tn
namespace Tn
open PySem
end Tn
namespace L2
open PySem PySem.Spec PyProof.Rows
section
variable {X : Cx}
theorem kit_same (K : PySem.W.Frag) (n : String) : PySem.W.kitOne K (.type n) (.type n) = some true := by
  unfold PySem.W.kitOne
  rw [if_pos (by simp)]
theorem call_isi : CallR X (.builtin "isinstance") (fun xs H Q => ∃ x t n b, xs = [x, .ty n] ∧ TyOf X.K H x t ∧ PySem.W.kitOne X.K t (.type n) = some b ∧ Q (.bl b) H) := by
  intro pins s σ H xs us Q I r h
  obtain ⟨x, t, n, b, rfl, ty, e, q⟩ := h
  obtain ⟨u, w', rfl, rx, ry⟩ := vals2 r
  obtain rfl : w' = Value.type n := ry
  exact isinst_ok I rx ty e fun tk => ⟨.bl b, H, I.tok _, rfl, q⟩
def eqVs : List V → List V → Bool
  | [], [] => true
  | x :: xs, y :: ys => eqV x y && eqVs xs ys
  | _, _ => false
def rEqT (K : PySem.W.Frag) : R2 := fun x y H Q => ∃ a b xs ys, x = .ref a ∧ y = .ref b ∧ SqT K H a xs ∧ SqT K H b ys ∧ xs.all flatV = true ∧ ys.all flatV = true ∧ Q (.bl (eqVs xs ys)) H
theorem call_listRange (hc : X.calm = true) : CallR X (.type "list") (fun xs H Q => ∃ (p : Addr) (n : Nat), xs = [.ref p] ∧ H p = some (.rng 0 n) ∧ n ≤ 1000000 ∧ ∀ l, H l = none → Q (.ref l) (upd H l (.lst ((List.range n).map fun i => V.int (i : Nat))))) := by
  intro pins s σ H xs us Q I r h
  obtain ⟨p, n, rfl, hp, hn, q⟩ := h
  obtain ⟨u, rfl, rx⟩ := vals1 r
  cases rx
  obtain ⟨t, u, v, e⟩ := (show ∃ t u v, s.heap.get? p = some { cls := .type "range", data := .fields #[.int 0 t, .int (n : Int) u, .int 1 v] } from I.hok p _ hp)
  refine call_list_range (n := n) (I.ok.hd hc) (show IsRange s.heap p 0 (n : Int) 1 t u v from e) (small_one (by omega) (by omega) (by omega) (by omega)) (by rw [rangeSize_one]; split <;> omega) (by omega) fun h' tk acc' c' kp hS hacc => ?_
  have hz : n ≤ sizeLine := Nat.le_trans hn (by decide)
  have hv : Vals ((List.range n).map fun i => V.int (i : Nat)) acc'.toList := by
    have gen : ∀ (l : List Value) (k : Nat), (∀ j w, l[j]? = some w → ∃ t, w = Value.int ((k + j : Nat) : Int) t) → Vals ((List.range' k l.length).map fun i => V.int (i : Nat)) l := by
      intro l
      induction l with
      | nil => intro k _; exact .nil
      | cons w l ih =>
        intro k hk
        rw [List.length_cons, List.range'_succ, List.map_cons]
        refine .cons ?_ (ih (k + 1) fun j w' e' => ?_)
        · obtain ⟨t, ht⟩ := hk 0 w rfl
          exact ⟨t, by rw [ht]; rfl⟩
        · obtain ⟨t, ht⟩ := hk (j + 1) w' (by simpa using e')
          exact ⟨t, by rw [ht, show k + (j + 1) = k + 1 + j by omega]⟩
    have e1 : acc'.toList.length = n := by simpa using hacc.1
    have := gen acc'.toList 0 (fun j w hj => by
      obtain ⟨t, ht⟩ := hacc.2 j w (by simpa using hj)
      exact ⟨t, by rw [ht]; congr 1; omega⟩)
    rw [e1, ← List.range_eq_range'] at this
    exact this
  refine ⟨.ref s.heap.objs.size, _, I.laid (t' := tk) kp (Nat.le_refl _) (show ObjOk X.prog X.w _ h' _ (.lst _) from ⟨by rw [List.length_map, List.length_range]; exact hz, acc'.toList, c', hv, by simpa using hS⟩), rfl, q _ (I.hok.fresh (Nat.le_refl _))⟩
theorem call_rangeO : CallR X (.type "range") (fun xs H Q => ∃ j : Int, xs = [.int j] ∧ ∀ p, H p = none → Q (.ref p) (upd H p (.rng 0 j))) := by
  intro pins s σ H xs us Q I r h
  obtain ⟨j, rfl, q⟩ := h
  obtain ⟨u, rfl, rx⟩ := vals1 r
  obtain ⟨t, rfl⟩ := rx
  refine call_range_1 ⟨.ref s.heap.objs.size, _, I.laid (fun b o e => Heap.get?_push_of_some _ e) (Nat.le_refl _) (show ObjOk X.prog X.w _ _ _ (.rng 0 j) from ⟨_, _, _, Heap.get?_push_size _ rfl⟩), rfl, q _ (I.hok.fresh (Nat.le_refl _))⟩
end
end L2
namespace Tn
open PySem PySem.Spec PyProof.Rows
section
variable {prog : Program} {w : World} {A : Around} {E : Value → Shared → Prop} {s : Shared}
theorem nextT_item {it tp : Addr} {k : Nat} {xs : Array Value} {v : Value} {Q : Value → Shared → Prop} (p1 : s.heap.IsTupleIter it tp k) (p2 : s.heap.IsTuple tp xs) (hv : xs[k]? = some v)
    (hQ : ∀ g, g.IsTupleIter it tp (k + 1) → Heap.SameBut it s.heap g → Q v { s with heap := g }) : wpAny (model prog w) A (Builtin.SmallTypes.nextOf (.ref it)) Q E s := by
  obtain ⟨o1, g1, c1, d1⟩ := id p1
  obtain ⟨o2, g2, _, n2, d2⟩ := p2
  unfold Builtin.SmallTypes.nextOf
  refine wpAny_bind (wpAny_callSpecial?_slot (name := Str.ofString "__next__") p1.typeIs F.slot_tuple_iterator_next (wpAny_call_entry F.slot_tuple_iterator_next p1.typeIs F.entry_tuple_iterator_next ?_ (F.args_tuple_iterator_next_1 _)))
  show wpAny _ _ (field (.ref it) 0 >>= _) _ _ _
  refine wpAny_bind (wpAny_field g1 d1 (x := .ref tp) rfl ?_)
  show wpAny _ _ (if (Value.ref tp == Value.none) = true then _ else _) _ _ _
  rw [if_neg (show ¬ ((Value.ref tp == Value.none) = true) from Bool.false_ne_true)]
  show wpAny _ _ (field (.ref it) 1 >>= _) _ _ _
  refine wpAny_bind (wpAny_field g1 d1 (x := .int k 0) rfl ?_)
  show wpAny _ _ (seqItems? (.ref tp) >>= _) _ _ _
  refine wpAny_bind (wpAny_seqItems g2 d2 ?_)
  simp only [Int.toNat_natCast, hv]
  refine wpAny_bind (wpAny_setField g1 d1 (by simp) (wpAny_pure ⟨v, rfl, wpAny_pure (hQ _ ?_ (Heap.SameBut.update ..))⟩))
  exact ⟨_, Heap.get?_update_self _ g1 (Obj.isFreed_of_fields (Obj.data_mapFields d1 _)), (Obj.cls_mapFields ..).trans c1, by
      rw [Obj.data_mapFields d1]; simp [rawInt]⟩
theorem nextT_end {it tp : Addr} {k : Nat} {xs : Array Value} {Q : Value → Shared → Prop} (hh : A.handled = none) (p1 : s.heap.IsTupleIter it tp k) (p2 : s.heap.IsTuple tp xs) (hv : xs[k]? = none)
    (hE : ∀ g e, Heap.ExtBut it s.heap g → (∃ o, g.get? e = some o ∧ o.cls = .type "StopIteration") → E (.ref e) { s with heap := g }) : wpAny (model prog w) A (Builtin.SmallTypes.nextOf (.ref it)) Q E s := by
  obtain ⟨o1, g1, c1, d1⟩ := id p1
  obtain ⟨o2, g2, _, n2, d2⟩ := p2
  unfold Builtin.SmallTypes.nextOf
  refine wpAny_bind (wpAny_callSpecial?_slot (name := Str.ofString "__next__") p1.typeIs F.slot_tuple_iterator_next (wpAny_call_entry F.slot_tuple_iterator_next p1.typeIs F.entry_tuple_iterator_next ?_ (F.args_tuple_iterator_next_1 _)))
  show wpAny _ _ (field (.ref it) 0 >>= _) _ _ _
  refine wpAny_bind (wpAny_field g1 d1 (x := .ref tp) rfl ?_)
  show wpAny _ _ (if (Value.ref tp == Value.none) = true then _ else _) _ _ _
  rw [if_neg (show ¬ ((Value.ref tp == Value.none) = true) from Bool.false_ne_true)]
  show wpAny _ _ (field (.ref it) 1 >>= _) _ _ _
  refine wpAny_bind (wpAny_field g1 d1 (x := .int k 0) rfl ?_)
  show wpAny _ _ (seqItems? (.ref tp) >>= _) _ _ _
  refine wpAny_bind (wpAny_seqItems g2 d2 ?_)
  simp only [Int.toNat_natCast, hv]
  refine wpAny_bind (wpAny_rule (wpAny_bind (wpAny_setField g1 d1 (by simp) ?_)))
  show wpAny _ _ (newExc (.type "StopIteration") [] >>= _) _ _ (_ : Shared)
  refine wpAny_bind ?_; simp only [newExc, newTuple]
  refine wpAny_bind (wpAny_newObj_type ?_ (by size_fits)); refine wpAny_bind (m := firstArgMember _ _) (wpAny_of_eq (a := Value.none) (by first | rfl | (simp only [firstArgMember]; rfl)) ?_)
  refine wpAny_newObj_type ?_ (by size_fits); simp only [raiseNew]
  refine wpAny_bind (wpAny_handled ?_); first | rw [show A.in1.handled = none from hh] | rw [hh]
  refine wpAny_bind (wpAny_pure (wpAny_throw ?_)); exact hE _ _ (((Heap.SameBut.update ..).extBut.push _).push _) ⟨_, Heap.get?_push_size _ rfl, rfl⟩
end
theorem tupIter_at {g g' : Heap} {it tp : Addr} {k : Nat} (p : g.IsTupleIter it tp k) (e : ∀ o, g.get? it = some o → g'.get? it = some o) : g'.IsTupleIter it tp k := let ⟨o, ho, r⟩ := p; ⟨o, e _ ho, r⟩
theorem tup_at {g g' : Heap} {tp : Addr} {xs : Array Value} (p : g.IsTuple tp xs) (e : ∀ o, g.get? tp = some o → g'.get? tp = some o) : g'.IsTuple tp xs := let ⟨o, ho, r⟩ := p; ⟨o, e _ ho, r⟩
end Tn
namespace L2
open PySem PySem.Spec PyProof.Rows
def Ite (K : PySem.W.Frag) (a : Addr) : It :=
  ⟨fun i H => ∃ xs x, SqT K H a xs ∧ xs[i]? = some x, fun i H x H' => ∃ p y, H p = none ∧ x = .ref p ∧ (∀ xs, SqT K H a xs → xs[i]? = some y) ∧ H' = upd H p (.tup [.int i, y]), fun i H => ∃ xs, SqT K H a xs ∧ xs.length = i⟩
section
variable {X : Cx}
def iEnum (K : PySem.W.Frag) (ta : TA) : TI := fun σ H R => ta σ H fun vs H1 => ∃ a, vs = [.ref a] ∧ (∃ xs, SqT K H1 a xs) ∧ R (Ite K a) H1
end
end L2
namespace L2
open PySem PySem.Spec PyProof.Rows
def cSt (σ : St) (js : List Nat) : St := none :: js.map fun j => (σ[j]?).getD none
def cxC (X : Cx) (scope : Scope) (cl : List (Str × Addr)) (C : Addr) (N : List Str) (fp : List Addr) (s : Shared) (H : Hp) : Cx where
  prog := X.prog
  w := X.w
  K := X.K
  mg := X.mg
  base := X.base
  A := X.A
  N := N
  s₀ := s
  H₀ := H
  env := compEnvC scope cl C X.env
  outer := X.stack
  stack := X.stack
  ex := fp
  fn := fun _ => false
  calm := X.calm
  pn := []
  xe := fun _ _ => False
theorem closure_go {env : Env} : ∀ (l : List (Str × NameKind)) (cs : List (Str × Addr)), (∀ y ∈ l, y.2 = .free → ∃ c, env.cells.lookup y.1 = some c) → (∀ y c, cs.lookup y = some c → env.cells.lookup y = some c) →
    ∃ cl, (forIn l cs fun x r => do
        let (name, kind) := x
        let mut cs := r
        if kind == .free then cs := (name, ← cellOf env name) :: cs
        pure (ForInStep.yield cs) : Sem (List (Str × Addr))) = pure cl ∧ (∀ y c, cl.lookup y = some c → env.cells.lookup y = some c) ∧ (∀ y ∈ l, y.2 = .free → ∃ c, cl.lookup y.1 = some c) ∧ (∀ y c, cs.lookup y = some c → ∃ d, cl.lookup y = some d)
  | [], cs, _, h2 => ⟨cs, rfl, h2, (fun _ h => nomatch h), fun y c e => ⟨c, e⟩⟩
  | (n, k) :: r, cs, h1, h2 => by
    rw [List.forIn_cons]
    by_cases hk : k = .free
    · subst hk
      obtain ⟨c, hc⟩ := h1 (n, .free) List.mem_cons_self rfl
      have hc' : cellOf env n = pure c := by unfold cellOf; rw [show env.cells.lookup n = some c from hc]
      obtain ⟨cl, e, p1, p2, p3⟩ := closure_go r ((n, c) :: cs) (fun y hy => h1 y (List.mem_cons_of_mem _ hy)) (fun y d hd => by
        rw [List.lookup_cons] at hd
        split at hd
        · rename_i hb
          have : y = n := by simpa using hb
          cases hd
          rw [this]; exact hc
        · exact h2 y d hd)
      refine ⟨cl, ?_, p1, fun y hy hf => ?_, fun y d hd => ?_⟩
      · simp only [beq_self_eq_true, if_true, hc', pure_bind]
        exact e
      · rcases List.mem_cons.mp hy with rfl | hy
        · exact p3 n c (by simp)
        · exact p2 y hy hf
      · by_cases hyn : y = n
        · subst hyn; exact p3 y c (by simp)
        · exact p3 y d (by rw [List.lookup_cons, show (y == n) = false by simpa using hyn]; exact hd)
    · have hb : (k == NameKind.free) = false := by simpa using hk
      obtain ⟨cl, e, p1, p2, p3⟩ := closure_go r cs (fun y hy => h1 y (List.mem_cons_of_mem _ hy)) h2
      refine ⟨cl, ?_, p1, fun y hy hf => ?_, p3⟩
      · simp only [hb, Bool.false_eq_true, if_false, pure_bind]
        exact e
      · rcases List.mem_cons.mp hy with rfl | hy
        · exact absurd hf hk
        · exact p2 y hy hf
theorem closure_of {env : Env} {scope : Scope} (h : ∀ y ∈ scope.names, y.2 = .free → ∃ c, env.cells.lookup y.1 = some c) :
    ∃ cl, closureFor scope env = pure cl ∧ (∀ y c, cl.lookup y = some c → env.cells.lookup y = some c) ∧ ∀ y ∈ scope.names, y.2 = .free → ∃ c, cl.lookup y.1 = some c := by
  obtain ⟨cl, e, p1, p2, _⟩ := closure_go scope.names [] h (fun _ _ q => by simp at q)
  refine ⟨cl, ?_, p1, p2⟩
  unfold closureFor
  have e' := congrArg (fun (t : Sem (List (Str × Addr))) => t >>= fun cs => pure cs) e
  simp only [pure_bind, bind_pure] at e' ⊢
  first | exact e' | simpa using e'
structure CScope (S scope : Scope) (x : Str) (N : List Str) (P : List Str) (js : List Nat) : Prop where
  kind : scope.kind = .function
  nocell : ∀ y ∈ scope.names, y.2 ≠ .cell
  loc : ∀ y ∈ scope.names, y.2 = .local → scope.names.lookup y.1 = some .local
  free : ∀ y ∈ scope.names, y.2 = .free → S.names.lookup y.1 = some .cell ∨ S.names.lookup y.1 = some .free
  own : scope.names.lookup x = some .local
  nd : N.Nodup
  hd : N = x :: (js.map fun j => (P[j]?).getD x)
  fr : ∀ j ∈ js, ∃ y, P[j]? = some y ∧ scope.names.lookup y = some .free
end L2
namespace L2
open PySem PySem.Spec PyProof.Rows
def relF (env : Env) (p : Str × NameKind) : Str × NameKind := if (p.2 == .free && env.scope.kind == .function && env.kindOf p.1 == some .cell) then (p.1, .cell) else (p.1, p.2)
theorem relF_fst (env : Env) (p : Str × NameKind) : (relF env p).1 = p.1 := by
  unfold relF; split <;> rfl
theorem relF_snd (env : Env) (p : Str × NameKind) : (relF env p).2 = p.2 ∨ (p.2 = .free ∧ (relF env p).2 = .cell) := by
  unfold relF
  split
  · rename_i h
    refine .inr ⟨?_, rfl⟩
    have h' : (p.2 == NameKind.free) = true := by
      cases e : (p.2 == NameKind.free) with
      | true => rfl
      | false => rw [e] at h; simp at h
    simpa using h'
  · exact .inl rfl
theorem look_rel {env : Env} : ∀ {names : List (Str × NameKind)} {x : Str} {k : NameKind}, (names.map (relF env)).lookup x = some k → ∃ k0, names.lookup x = some k0 ∧ (k = k0 ∨ (k0 = .free ∧ k = .cell))
  | [], _, _, h => by simp at h
  | p :: r, x, k, h => by
    rw [List.map_cons, show relF env p = ((relF env p).1, (relF env p).2) from rfl, List.lookup_cons, relF_fst] at h
    rw [show p = (p.1, p.2) from rfl, List.lookup_cons]
    split at h
    · refine ⟨p.2, rfl, ?_⟩
      have e : (relF env p).2 = k := Option.some.inj h
      rcases relF_snd env p with z | z
      · exact .inl (e.symm.trans z)
      · exact .inr ⟨z.1, e.symm.trans z.2⟩
    · exact look_rel h
theorem look_unrel {env : Env} : ∀ {names : List (Str × NameKind)} {x : Str} {k0 : NameKind}, names.lookup x = some k0 → ∃ k, (names.map (relF env)).lookup x = some k ∧ (k = k0 ∨ (k0 = .free ∧ k = .cell))
  | [], _, _, h => by simp at h
  | p :: r, x, k0, h => by
    rw [show p = (p.1, p.2) from rfl, List.lookup_cons] at h
    rw [List.map_cons, show relF env p = ((relF env p).1, (relF env p).2) from rfl, List.lookup_cons, relF_fst]
    split at h
    · have e : p.2 = k0 := Option.some.inj h
      refine ⟨_, rfl, ?_⟩
      rcases relF_snd env p with z | z
      · exact .inl (z.trans e)
      · exact .inr ⟨e.symm.trans z.1, z.2⟩
    · exact look_unrel h
section
variable {X : Cx} {pins : List (Addr × Obj)} {σ : St} {H : Hp} {s : Shared} {scope S : Scope} {cl : List (Str × Addr)} {C : Addr} {N : List Str} {fp : List Addr} {x : Str} {js : List Nat}
theorem cxC_ok (I : Inv X pins σ H s) (Sc : CScope S scope x N X.N js) (hC : s.heap.objs.size ≤ C) (h1 : ∀ y c, cl.lookup y = some c → X.env.cells.lookup y = some c)
    (h2 : ∀ y ∈ scope.names, y.2 = .free → ∃ c, cl.lookup y.1 = some c) (hfp : ∀ b ∈ fp, FpOk X pins H b) (hlt : ∀ b ∈ fp, b < s.heap.objs.size) : (cxC X scope cl C N fp s H).Ok where
  mod := I.ok.mod
  kind := Sc.kind
  glob := I.ok.glob
  blt := I.ok.blt
  above := hC
  inj := fun y z c e1 e2 => I.ok.inj y z c (h1 _ _ e1) (h1 _ _ e2)
  has := fun y hy => by
    have go : ∀ k, (scope.names.map (relF X.env)).lookup y = some k → (k = .cell ∨ k = .free) → ∃ c, cl.lookup y = some c := fun k e hk => by
      obtain ⟨k0, e0, hh⟩ := look_rel e
      have m := PySem.mem_of_lookup e0
      have hf : k0 = .free := by
        rcases hh with z | z
        · rcases hk with q | q
          · exact absurd (z.symm.trans q) (Sc.nocell _ m)
          · exact z.symm.trans q
        · exact z.1
      exact h2 (y, k0) m hf
    rcases hy with e | e
    · exact go _ e (.inl rfl)
    · exact go _ e (.inr rfl)
  cab := fun _ _ h => nomatch h
  hd := I.ok.hd
  frames := I.ok.frames
  stk := .inl rfl
  exf := fun b hb => ⟨Nat.ne_of_lt (Nat.lt_of_lt_of_le (hlt b hb) hC), fun y c e => (hfp b hb).2.2.2.2.1 y c (h1 _ _ e)⟩
  bs := fun b o e => I.bs b o e
  bsz := Nat.le_trans I.ok.bsz I.sz
  noex := fun b o e hb => by
    rcases (hfp b hb).2.2.2.1 with z | z
    · exact I.ok.noex b o e z
    · exact absurd (Nat.lt_of_lt_of_le (Heap.lt_size e) (Nat.le_trans I.ok.bsz z)) (Nat.lt_irrefl _)
  exfs := fun b hb hs => by
    rcases List.mem_cons.mp (I.stkSub b hs) with z | z
    · exact (hfp b hb).2.1 z
    · exact (hfp b hb).2.2.1 z
  funs := I.stack
  frf := I.stkFree
theorem cxC_inv (I : Inv X pins σ H s) (hS : X.env.scope = S) (Sc : CScope S scope x N X.N js) (hC : s.heap.objs.size ≤ C) (h1 : ∀ y c, cl.lookup y = some c → X.env.cells.lookup y = some c)
    (h2 : ∀ y ∈ scope.names, y.2 = .free → ∃ c, cl.lookup y.1 = some c) (hfp : ∀ b ∈ fp, FpOk X pins H b) (hlt : ∀ b ∈ fp, b < s.heap.objs.size)
    {h4 : Heap} {tk : Nat} {m : Str → Option Value} (hns : h4.Ns C m) (hk : ∀ b o, s.heap.get? b = some o → h4.get? b = some o) :
    Inv (cxC X scope cl C N fp s H) [] (cSt σ js) H { s with heap := h4, toks := tk } := by
  refine ⟨cxC_ok I Sc hC h1 h2 hfp hlt, rfl, I.bare, Un.kept hk, ⟨m, hns, fun i y v hi hv hvis => ?_⟩, fun y c e => ?_, I.hok.fresh hC, fun y c e => I.freeC y c (h1 _ _ e), fun p hp => absurd (show p ∈ ([] : List (Addr × Obj)) from hp) (by simp), I.hok.kept hk, ?_⟩
  · cases i with
    | zero => exact absurd (show some (none : Option V) = some (some v) from hv) (by simp)
    | succ i =>
      have hi : N[i + 1]? = some y := hi
      rw [Sc.hd, List.getElem?_cons_succ, List.getElem?_map] at hi
      have hv : (js.map fun j => (σ[j]?).getD none)[i]? = some (some v) := hv
      rw [List.getElem?_map] at hv
      cases ej : js[i]? with
      | none => rw [ej] at hv; cases hv
      | some j =>
        rw [ej] at hi hv
        have hv : (σ[j]?).getD none = some v := Option.some.inj hv
        have hi : (X.N[j]?).getD x = y := Option.some.inj hi
        obtain ⟨y', ey, hfr⟩ := Sc.fr j (List.mem_of_getElem? ej)
        rw [ey] at hi
        have hi : y' = y := hi
        subst hi
        have hσ : σ[j]? = some (some v) := by
          cases e : σ[j]? with
          | none => rw [e] at hv; cases hv
          | some o => rw [e] at hv; exact congrArg some hv
        have kX := Sc.free _ (PySem.mem_of_lookup hfr) rfl
        rw [← hS] at kX
        obtain ⟨mX, hnX, hl⟩ := I.loc
        obtain ⟨u, r, L⟩ := hl j y' v ey hσ (.inr kX)
        refine ⟨u, r, ?_⟩
        rcases L with ⟨kl, _⟩ | ⟨_, c, ec, z⟩
        · have kl : X.env.scope.names.lookup y' = some .local := kl
          rcases kX with q | q
          · rw [q] at kl; cases kl
          · rw [q] at kl; cases kl
        · obtain ⟨c', ec'⟩ := h2 _ (PySem.mem_of_lookup hfr) rfl
          have ecc : c' = c := Option.some.inj ((h1 _ _ ec').symm.trans ec)
          subst ecc
          obtain ⟨o, ho, hd⟩ := z
          refine .inr ⟨?_, c', ec', o, hk _ _ ho, hd⟩
          obtain ⟨k, e, hh⟩ := look_unrel (env := X.env) hfr
          rcases hh with q | q
          · exact .inr (show (scope.names.map (relF X.env)).lookup y' = some .free from q ▸ e)
          · exact .inl (show (scope.names.map (relF X.env)).lookup y' = some .cell from q.2 ▸ e)
  · obtain ⟨v, o, ho, hd⟩ := I.cell y c (h1 _ _ e)
    exact ⟨v, o, hk _ _ ho, hd⟩
  · show (cSt σ js).length = N.length
    rw [Sc.hd]
    simp [cSt]
def PTs (X : Cx) (ifs : List Expr) (t : TT) : Prop :=
  ∀ (pins : List (Addr × Obj)) (s : Shared) (σ : St) (H : Hp) (Q : Bool → Hp → Prop), Inv X pins σ H s → t σ H Q →
    wpAny (model X.prog X.w) X.A (forIn ifs true fun c r => if r = true then do let ok ← isTrue c X.env (eval c X.env); pure (ForInStep.yield ok) else pure (ForInStep.yield r)) (TP X pins σ Q) X.xe s
def tYes : TT := fun _ H Q => Q true H
theorem pts_nil : PTs X [] tYes := fun _ _ _ H _ I h => wpAny_tests_nil ⟨H, I, h⟩
theorem pts_one {c : Expr} {t : TT} (h : PT X c t) : PTs X [c] t := fun pins s σ H Q I hw => wpAny_tests_one (h pins s σ H Q I hw)
def CompW (J : It) (g : TG) (tc : TT) (te : TE) (js : List Nat) (σ : St) (H1 : Hp) (Q : VK) (D : Addr) : Prop :=
  ∃ W : Nat → Nat → List V → St → Hp → Prop, (∃ m, W 0 m [] (cSt σ js) (upd H1 D (.lst []))) ∧ ∀ i m acc σ' H', W i m acc σ' H' → H' D = some (.lst acc) ∧
    ((J.stop i H' ∧ Q (.ref D) H') ∨ (J.go i H' ∧ acc.length < sizeLine ∧ ∀ y H2, J.yld i H' y H2 → g y σ' H2 fun σ3 H3 => tc σ3 H3 fun b H4 =>
      if b = true then te σ3 H4 fun z H5 => H5 D = some (.lst acc) ∧ ∃ m', m' < m ∧ W (i + 1) m' (acc ++ [z]) σ3 (upd H5 D (.lst (acc ++ [z])))
      else ∃ m', m' < m ∧ W (i + 1) m' acc σ3 H4))
def tComp (wi : TI) (g : TG) (tc : TT) (te : TE) (js : List Nat) : TE := fun σ H Q => wi σ H fun J H1 => ∀ D, H1 D = none → CompW J g tc te js σ H1 Q D
theorem compLoop_go {prog : Program} {w : World} {A : Around} {R : Result → Shared → Prop} {s : Shared} {elt target iter : Expr} {ifs : List Expr} {pos : Pos} {it acc : Value} {env : Env} (I : Nat → Shared → Prop)
    (turn : ∀ n s, I n s → wpAny (model prog w) A (pyNext it) (fun r s₁ => match r with
      | none => R (.ok .next) s₁
      | some v => wpAny (model prog w) A (letOwnedTupleGo target it v) (fun _ s₂ => wpAny (model prog w) A (assign target env v) (fun _ s₂ =>
          wpAny (model prog w) A (forIn ifs true fun c r => if r = true then do let ok ← isTrue c env (eval c env); pure (ForInStep.yield ok) else pure (ForInStep.yield r)) (fun ok s₃ =>
            if ok = true then wpAny (model prog w) A (eval elt env) (fun x s₄ =>
              wpAny (model prog w) A (call (.builtin "list.append") [acc, x]) (fun _ s₅ => ∃ m, m < n ∧ I m s₅) (fun _ _ => False) s₄) (fun _ _ => False) s₃
            else ∃ m, m < n ∧ I m s₃) (fun _ _ => False) s₂) (fun _ _ => False) s₂) (fun _ _ => False) s₁) (fun _ _ => False) s)
    (n : Nat) (h : I n s) :
    codeAny (model prog w) A (.compLoop (.ListComp elt [⟨target, iter, ifs, 0⟩] scope pos) 0 it acc env) R s := by
  refine codeAny_loop rfl I (fun n s hI => ?_) n h
  show wpAny _ A ((compTurn (.ListComp elt [⟨target, iter, ifs, 0⟩] scope pos) 0 it acc env).onRaise (fun x => do noteFrame x env; theTreesLotGoes x)) _ _ s
  refine wpAny_noted ?_
  rw [compTurn_list]
  refine wpAny_bind (wpAny_standAt (wpAny_bind (wpAny_mono (turn n s hI) (fun r s₁ h₁ => ?_) fun _ _ h' => h'.elim)))
  cases r with
  | none => exact wpAny_pure h₁
  | some v =>
    refine wpAny_bind (wpAny_mono h₁ (fun _ s₁' h₁' => ?_) fun _ _ h' => h'.elim)
    refine wpAny_bind (wpAny_mono h₁' (fun _ s₂ h₂ => wpAny_bind (wpAny_mono h₂ (fun ok s₃ h₃ => ?_) fun _ _ h' => h'.elim)) fun _ _ h' => h'.elim)
    cases ok with
    | false => exact wpAny_pure ⟨rfl, h₃⟩
    | true =>
      exact wpAny_bind (wpAny_bind (wpAny_mono h₃ (fun x s₄ h₄ => wpAny_bind (wpAny_mono h₄ (fun _ s₅ h₅ => wpAny_pure (wpAny_pure ⟨rfl, h₅⟩)) fun _ _ h' => h'.elim)) fun _ _ h' => h'.elim))
theorem comp_block {E : Value → Shared → Prop} {elt iter tg : Expr} {ifs : List Expr} {pos : Pos} {J : It} {tn : Nat → Heap → Prop} {it : Addr} {g : TG} {tc : TT} {te : TE} {Q : VK} {RR : Value → Addr → Result → Shared → Prop}
    (hc : X.calm = true) (I2 : Inv X pins σ H s) (hS : X.env.scope = S) (Sc : CScope S scope x N X.N js) (h1 : ∀ y c, cl.lookup y = some c → X.env.cells.lookup y = some c)
    (h2 : ∀ y ∈ scope.names, y.2 = .free → ∃ c, cl.lookup y.1 = some c) (T : Turn X.prog X.w X.K tg J fp it tn) (st2 : tn 0 s.heap) (f2 : ∀ b ∈ fp, FpOk X pins H b)
    (hg : ∀ cl C fp s H, PG (cxC X scope cl C N fp s H) tg g) (ht : ∀ cl C fp s H, PTs (cxC X scope cl C N fp s H) ifs tc) (he : ∀ cl C fp s H, PE (cxC X scope cl C N fp s H) elt te)
    (q : ∀ D, H D = none → CompW J g tc te js σ H Q D)
    (hRR : ∀ D C H' s', Inv X pins σ H' s' → FpOk X pins H' C → (∃ m, s'.heap.Ns C m) → Q (.ref D) H' → RR (.ref D) C (.ok .next) s') :
    wpAny (model X.prog X.w) X.A (newList []) (fun acc s₃ => wpAny (model X.prog X.w) X.A (newFunctionEnv scope X.env.globals cl [] X.env.qual none .none (some X.env)) (fun cenv s₄ =>
      codeAny (model X.prog X.w) X.A (.compStart (.ListComp elt [⟨tg, iter, ifs, 0⟩] scope pos) 0 (.ref it) acc { cenv with scope := relabel scope X.env }) (RR acc cenv.locals) s₄) E s₃) E s := by
  refine wpAny_newObj_type (wpAny_newFunctionEnv Sc.nocell (by intro y hy; simp at hy) (fun h₁ hns₁ hsb₁ => ?_) Sc.kind)
  dsimp only at hns₁ hsb₁ ⊢
  have I3 : Inv X pins σ (upd H s.heap.objs.size (.lst [])) { s with heap := s.heap.push { cls := .type "list", dict := none, data := .seq ([] : List Value).toArray } } := I2.lnew (its := []) (t' := s.toks) .nil (Nat.zero_le _)
  have hD0 : H s.heap.objs.size = none := I2.hok.fresh (Nat.le_refl _)
  obtain ⟨W, ⟨m0, w0⟩, turn⟩ := q s.heap.objs.size hD0
  generalize hHP : s.heap.push { cls := .type "list", dict := none, data := .seq ([] : List Value).toArray } = HP at hns₁ hsb₁ I3 ⊢
  have hsz : HP.objs.size = s.heap.objs.size + 1 := by rw [← hHP, Heap.size_push]
  have kp : ∀ b o, HP.get? b = some o → h₁.get? b = some o := fun b o e => hsb₁.extBut b o (Nat.ne_of_lt (Heap.lt_size e)) (Heap.get?_push_of_some _ e)
  have lt2 : ∀ b ∈ fp, b < s.heap.objs.size := fun b hb => by
    obtain ⟨o, e, _⟩ := T.obj 0 _ st2 b hb
    exact Heap.lt_size e
  have f3 : ∀ b ∈ fp, FpOk X pins (upd H s.heap.objs.size (.lst [])) b := fun b hb => ⟨by rw [upd_ne (Nat.ne_of_lt (lt2 b hb))]; exact (f2 b hb).1, (f2 b hb).2⟩
  have lt3 : ∀ b ∈ fp, b < HP.objs.size := fun b hb => by rw [hsz]; exact Nat.lt_succ_of_lt (lt2 b hb)
  have IB : Inv (cxC X scope cl HP.objs.size N fp { s with heap := HP } (upd H s.heap.objs.size (.lst []))) [] (cSt σ js) (upd H s.heap.objs.size (.lst [])) { s with heap := h₁, toks := s.toks + ([] : List (Str × Value)).length } :=
    cxC_inv (s := { s with heap := HP }) I3 hS Sc (Nat.le_refl _) h1 h2 f3 lt3 hns₁ kp
  have st1 : tn 0 h₁ := T.keep 0 _ _ st2 fun b _ o e => kp b o (by rw [← hHP]; exact Heap.get?_push_of_some _ e)
  have loop : codeAny (model X.prog X.w) X.A (.compLoop (.ListComp elt [⟨tg, iter, ifs, 0⟩] scope pos) 0 (.ref it) (.ref s.heap.objs.size) (compEnvC scope cl HP.objs.size X.env))
      (RR (.ref s.heap.objs.size) HP.objs.size) { s with heap := h₁, toks := s.toks + ([] : List (Str × Value)).length } := by
    have stat : ∀ {H' : Hp}, (∀ b ∈ fp, H' b = none) → ∀ b ∈ fp, FpOk (cxC X scope cl HP.objs.size N fp { s with heap := HP } (upd H s.heap.objs.size (.lst []))) [] H' b := fun {H'} hn b hb =>
      ⟨hn b hb, Nat.ne_of_lt (lt3 b hb), fun hs => by
        rcases List.mem_cons.mp (I3.stkSub b hs) with z | z
        · exact (f3 b hb).2.1 z
        · exact (f3 b hb).2.2.1 z, .inl hb, fun y c e => (f3 b hb).2.2.2.2.1 y c (h1 _ _ e), fun p hp => absurd (show p ∈ ([] : List (Addr × Obj)) from hp) (by simp)⟩
    refine compLoop_go (fun n s' => ∃ i acc σ' H', Inv (cxC X scope cl HP.objs.size N fp { s with heap := HP } (upd H s.heap.objs.size (.lst []))) [] σ' H' s' ∧ tn i s'.heap ∧ (∀ b ∈ fp, H' b = none) ∧ W i n acc σ' H') ?_ m0
      ⟨0, [], _, _, IB, st1, fun b hb => (f3 b hb).1, w0⟩
    rintro n s5 ⟨i, acc, σ5, H5, I5, st5, fr5, w5⟩
    obtain ⟨hD, alt⟩ := turn i n acc σ5 H5 w5
    rcases alt with ⟨stop, qn⟩ | ⟨go, hz, step⟩
    · refine thn (T.done (cxC X scope cl HP.objs.size N fp { s with heap := HP } (upd H s.heap.objs.size (.lst []))) rfl rfl rfl hc i [] s5 σ5 H5 _ I5 (stat fr5) st5 stop) fun r s6 ⟨hr, I6⟩ => ?_
      subst hr
      have hfin : Inv X pins σ H5 s6 := I3.call' (ch := fp) I6.os I6.base I6.hok I6.bare fun b hb => ⟨(f3 b hb).2.2.2.1, (f3 b hb).2.1, (f3 b hb).2.2.2.2.1, (f3 b hb).2.2.2.2.2⟩
      obtain ⟨m, hm, _⟩ := I6.loc
      exact hRR _ _ H5 s6 hfin (I3.fpOk (Nat.le_refl _) I6.free) ⟨m, hm⟩ qn
    · refine thn (T.item (cxC X scope cl HP.objs.size N fp { s with heap := HP } (upd H s.heap.objs.size (.lst []))) rfl rfl rfl hc i [] s5 σ5 H5 _ I5 (stat fr5) st5 go) fun r s6 ⟨u, hr, h6⟩ => ?_
      subst hr
      refine thn h6 fun _ s7 ⟨y, H7, I7, r7, y7, st7, fr7⟩ => ?_
      have I7' := I7.pinned (stat fr7) (T.obj _ _ st7)
      refine thn (hg _ _ _ _ _ _ s7 σ5 H7 y u _ I7' r7 (step y H7 y7)) fun _ s8 ⟨σ8, H8, I8, q8⟩ => ?_
      have keepIt : ∀ {σ' : St} {H' : Hp} {s' : Shared}, Inv (cxC X scope cl HP.objs.size N fp { s with heap := HP } (upd H s.heap.objs.size (.lst []))) ([] ++ pinsAt fp s7.heap) σ' H' s' → tn (i + 1) s'.heap ∧ ∀ b ∈ fp, H' b = none := fun {σ' H' s'} J' =>
        ⟨T.keep _ _ _ st7 fun b hb o e => (J'.pin (b, o) (List.mem_append_right _ (List.mem_append_right _ (mem_pinsAt hb e)))).1, fun b hb => by
          obtain ⟨o, e, _⟩ := T.obj _ _ st7 b hb
          exact (J'.pin (b, o) (List.mem_append_right _ (List.mem_append_right _ (mem_pinsAt hb e)))).2.1⟩
      refine thn (ht _ _ _ _ _ _ s8 σ8 H8 _ I8 q8) fun ok s9 ⟨H9, I9, q9⟩ => ?_
      cases ok with
      | false =>
        obtain ⟨m', hm, w9⟩ := q9
        obtain ⟨t9, n9⟩ := keepIt I9
        exact ⟨m', hm, i + 1, acc, σ8, H9, I9.unpinned, t9, n9, w9⟩
      | true =>
        refine thn (he _ _ _ _ _ _ s9 σ8 H9 _ I9 q9) fun v s10 ⟨z, H10, I10, r10, hD10, m', hm, w10⟩ => ?_
        refine thn (mt_append _ s10 σ8 H10 (.ref s.heap.objs.size) [z] (.ref s.heap.objs.size) [v] (fun _ H11 => ∃ m', m' < n ∧ W (i + 1) m' (acc ++ [z]) σ8 H11) I10 rfl (.cons r10 .nil) ⟨_, acc, z, rfl, rfl, hD10, hz, m', hm, w10⟩) fun _ s11 ⟨_, H11, I11, _, m2, hm2, w11⟩ => ?_
        obtain ⟨t11, n11⟩ := keepIt I11
        exact ⟨m2, hm2, i + 1, acc ++ [z], σ8, H11, I11.unpinned, t11, n11, w11⟩
  exact codeAny_compStart_list loop (T.self _ 0 _ _ _ st1 loop)
variable {elt iter tg : Expr} {ifs : List Expr} {pos : Pos} {wi : TI} {g : TG} {tc : TT} {te : TE}
theorem pe_comp (hS : X.env.scope = S) (Sc : CScope S scope x N X.N js) (hc : X.calm = true) (hi : PI X tg iter wi)
    (hg : ∀ cl C fp s H, PG (cxC X scope cl C N fp s H) tg g) (ht : ∀ cl C fp s H, PTs (cxC X scope cl C N fp s H) ifs tc) (he : ∀ cl C fp s H, PE (cxC X scope cl C N fp s H) elt te)
    (hs : ∀ x, foldedSetIterable iter X.env x = pure x := by intro _; rfl) : PE X (.ListComp elt [⟨tg, iter, ifs, 0⟩] scope pos) (tComp wi g tc te js) := by
  intro pins s σ H Q I h
  obtain ⟨cl, hcl, h1, h2⟩ := closure_of (scope := scope) (env := X.env) fun y hy hf => I.ok.has y.1 (by have := Sc.free y hy hf; rw [← hS] at this; exact this)
  rw [eval_ListComp]
  refine wpAny_comprehension_free (use := none) rfl hs hcl Sc.kind Sc.loc (thn (hi pins s σ H _ I h) fun xv s1 h1' => thn h1' fun itv s2 h2' => ?_)
  obtain ⟨it, fp, tn, J, H2, rfl, I2, T, st2, f2, q⟩ := h2'
  refine comp_block (RR := fun acc C => compPost (model X.prog X.w) X.A X.xe none (EP X pins σ Q) acc C) hc I2 hS Sc h1 h2 T st2 f2 hg ht he q ?_
  rintro D C H' s' I' f' ⟨m, hm⟩ qD
  exact ⟨m, hm, fun h' hs' => ⟨.ref D, H', I'.turned (t' := s'.toks) (fun b o hb e => (hs'.2 b hb).trans e) f'.1 f'.2.1 f'.2.2.2.1 f'.2.2.2.2.1 f'.2.2.2.2.2, rfl, qD⟩⟩
theorem ps_setComp {i : Nat} {y : Str} {py spos : Pos} (hN : X.N.Nodup) (hiy : X.N[i]? = some y) (hx : Loc X.env.scope y) (hS : X.env.scope = S) (Sc : CScope S scope x N X.N js) (hc : X.calm = true) (hi : PI X tg iter wi)
    (hg : ∀ cl C fp s H, PG (cxC X scope cl C N fp s H) tg g) (ht : ∀ cl C fp s H, PTs (cxC X scope cl C N fp s H) ifs tc) (he : ∀ cl C fp s H, PE (cxC X scope cl C N fp s H) elt te)
    (hsw : swapsWith (.ListComp elt [⟨tg, iter, ifs, 0⟩] scope pos) (some (.Name y py)) spos.line X.env = pure true) (hf : X.fn y = true ∨ X.env.scope.names.lookup y = some .local := by first | exact .inl rfl | exact .inr rfl | assumption)
    (hs : ∀ x, foldedSetIterable iter X.env x = pure x := by intro _; rfl) : PS X (.Assign [.Name y py] (.ListComp elt [⟨tg, iter, ifs, 0⟩] scope pos) spos) (tAsg (tComp wi g tc te js) (gName i)) := by
  intro pins s σ H D I h
  obtain ⟨cl, hcl, h1, h2⟩ := closure_of (scope := scope) (env := X.env) fun y hy hf => I.ok.has y.1 (by have := Sc.free y hy hf; rw [← hS] at this; exact this)
  rw [exec_Assign_Name_used _ _ _ _ hsw]
  refine wpAny_bind (wpAny_standAt (wpAny_bind ?_))
  show wpAny _ _ (do let _ ← comprehension (.ListComp elt [⟨tg, iter, ifs, 0⟩] scope pos) scope X.env _ (newList []) false (eval iter X.env) (some (assign (.Name y py) X.env))) _ _ s
  refine wpAny_bind (wpAny_mono (wpAny_comprehension_free (use := some (assign (.Name y py) X.env)) (Q := fun _ s' => SP X pins D .next s') rfl hs hcl Sc.kind Sc.loc
    (thn (hi pins s σ H _ I h) fun xv s1 h1' => thn h1' fun itv s2 h2' => ?_)) (fun _ s' hq => wpAny_pure (wpAny_pure hq)) fun _ _ e => e)
  obtain ⟨it, fp, tn, J, H2, rfl, I2, T, st2, f2, q⟩ := h2'
  refine comp_block (RR := fun acc C => compPost (model X.prog X.w) X.A X.xe (some (assign (.Name y py) X.env)) (fun _ s' => SP X pins D .next s') acc C) hc I2 hS Sc h1 h2 T st2 f2 hg ht he q ?_
  rintro A C H' s' I' f' ⟨m, hm⟩ qD
  show wpAny _ _ (assign (.Name y py) X.env (.ref A)) _ _ _
  refine wpAny_assign_Name (store_ok2 I' hN hiy hx (v := .ref A) rfl (fun s'' I'' hch => ?_) hf)
  obtain ⟨a, hsb, ha⟩ := hch
  have hCa : C ≠ a := by
    rcases ha with z | z
    · rw [z]; exact f'.2.1
    · exact fun e => f'.2.2.2.2.1 y a z e.symm
  refine ⟨m, hm.sameBut hsb hCa, fun h' hs' => ⟨_, H', I''.turned (t' := s''.toks) (fun b o hb e => (hs'.2 b hb).trans e) f'.1 f'.2.1 f'.2.2.2.1 f'.2.2.2.2.1 f'.2.2.2.2.2, qD⟩⟩
end
theorem comp_range {lo : Int} {n : Nat} {te : TE} {js : List Nat} {σ : St} {H1 : Hp} {Q : VK} {D : Addr} (f : Nat → V) (hn : n ≤ sizeLine)
    (he : ∀ (i : Nat) (acc : List V) (R : VK), i < n → R (f i) (upd H1 D (.lst acc)) → te (some (.int (lo + i)) :: js.map fun j => (σ[j]?).getD none) (upd H1 D (.lst acc)) R)
    (hq : Q (.ref D) (upd H1 D (.lst ((List.range n).map f)))) : CompW (Itr lo n) (gName 0) tYes te js σ H1 Q D := by
  refine ⟨fun i m acc σ' H' => m = n - i ∧ i ≤ n ∧ acc = (List.range i).map f ∧ (∃ v, σ' = v :: js.map fun j => (σ[j]?).getD none) ∧ H' = upd H1 D (.lst acc), ⟨n, by simp, Nat.zero_le _, rfl, ⟨none, rfl⟩, rfl⟩, ?_⟩
  rintro i m acc σ' H' ⟨rfl, hi, rfl, ⟨v, rfl⟩, rfl⟩
  refine ⟨upd_same, ?_⟩
  by_cases hlt : i < n
  · refine .inr ⟨hlt, by rw [List.length_map, List.length_range]; omega, ?_⟩
    rintro y H2 ⟨rfl, rfl⟩
    show te (some (V.int (lo + i)) :: js.map fun j => (σ[j]?).getD none) _ _
    refine he i _ _ hlt ⟨upd_same, n - (i + 1), by omega, rfl, hlt, ?_, ⟨_, rfl⟩, ?_⟩
    · rw [List.range_succ, List.map_append]; rfl
    · rw [upd_upd]
  · have e : i = n := by omega
    subst e
    exact .inl ⟨Nat.le_refl _, hq⟩
theorem comp_seq {J : It} {xs : List V} {te : TE} {js : List Nat} {σ : St} {H1 : Hp} {Q : VK} {D : Addr} (f : Nat → V) (hn : xs.length ≤ sizeLine)
    (hgo : ∀ i acc, i < xs.length → J.go i (upd H1 D (.lst acc))) (hst : ∀ acc, J.stop xs.length (upd H1 D (.lst acc))) (hy : ∀ i acc y H2, i < xs.length → J.yld i (upd H1 D (.lst acc)) y H2 → xs[i]? = some y ∧ H2 = upd H1 D (.lst acc))
    (he : ∀ (i : Nat) (y : V) (acc : List V) (R : VK), xs[i]? = some y → R (f i) (upd H1 D (.lst acc)) → te (some y :: js.map fun j => (σ[j]?).getD none) (upd H1 D (.lst acc)) R)
    (hq : Q (.ref D) (upd H1 D (.lst ((List.range xs.length).map f)))) : CompW J (gName 0) tYes te js σ H1 Q D := by
  refine ⟨fun i m acc σ' H' => m = xs.length - i ∧ i ≤ xs.length ∧ acc = (List.range i).map f ∧ (∃ v, σ' = v :: js.map fun j => (σ[j]?).getD none) ∧ H' = upd H1 D (.lst acc), ⟨xs.length, by simp, Nat.zero_le _, rfl, ⟨none, rfl⟩, rfl⟩, ?_⟩
  rintro i m acc σ' H' ⟨rfl, hi, rfl, ⟨v, rfl⟩, rfl⟩
  refine ⟨upd_same, ?_⟩
  by_cases hlt : i < xs.length
  · refine .inr ⟨hgo i _ hlt, by rw [List.length_map, List.length_range]; omega, ?_⟩
    intro y H2 hyl
    obtain ⟨hx, rfl⟩ := hy i _ y H2 hlt hyl
    show te (some y :: js.map fun j => (σ[j]?).getD none) _ _
    refine he i y _ _ hx ⟨upd_same, xs.length - (i + 1), by omega, rfl, hlt, ?_, ⟨_, rfl⟩, ?_⟩
    · rw [List.range_succ, List.map_append]; rfl
    · rw [upd_upd]
  · have e : i = xs.length := by omega
    subst e
    exact .inl ⟨hst _, hq⟩
theorem comp_list {K : PySem.W.Frag} {a : Addr} {xs : List V} {te : TE} {js : List Nat} {σ : St} {H1 : Hp} {Q : VK} {D : Addr} (f : Nat → V) (hn : xs.length ≤ sizeLine) (hl : ∀ acc, SqL K (upd H1 D (.lst acc)) a xs)
    (he : ∀ (i : Nat) (y : V) (acc : List V) (R : VK), xs[i]? = some y → R (f i) (upd H1 D (.lst acc)) → te (some y :: js.map fun j => (σ[j]?).getD none) (upd H1 D (.lst acc)) R)
    (hq : Q (.ref D) (upd H1 D (.lst ((List.range xs.length).map f)))) : CompW (Itl K a) (gName 0) tYes te js σ H1 Q D :=
  comp_seq f hn (fun i acc hi => ⟨xs, xs[i], hl acc, by simp [hi]⟩) (fun acc => ⟨xs, hl acc, Nat.le_refl _⟩) (fun i acc y H2 hi h => ⟨h.2 xs (hl acc), h.1⟩) he hq
end L2
namespace L2
open PySem PySem.Spec PyProof.Rows
section
variable {X : Cx}
def tTupRev (K : PySem.W.Frag) (ta : TA) : TE := fun σ H Q => ta σ H fun vs H1 => ∃ a xs, vs = [.ref a] ∧ SqT K H1 a xs ∧ ∀ p, H1 p = none → Q (.ref p) (upd H1 p (.tup xs.reverse))
theorem vals_rev {xs : List V} {its : List Value} (r : Vals xs its) {acc : Array Value} (h : ItemsOf (fun i v => its.toArray[its.toArray.size - 1 - i]? = some v) acc its.toArray.size) : Vals xs.reverse acc.toList := by
  have e : acc.toList = its.reverse := by
    apply List.ext_getElem?
    intro i
    have hl : acc.size = its.length := by simpa using h.1
    by_cases hi : i < its.length
    · have hi' : i < acc.size := by omega
      have := h.2 i acc[i] (by simp [hi'])
      rw [List.getElem?_reverse hi, Array.getElem?_toList, show acc[i]? = some acc[i] by simp [hi']]
      rw [List.size_toArray] at this
      rw [← this]
      simp
    · rw [List.getElem?_eq_none (by simp; omega), List.getElem?_eq_none (by simp; omega)]
  rw [e]
  exact r.reverse
def tBMT (r : V → List V → Hp → VK → Prop) (to : TE) (t : TA) : TE := fun σ H Q => to σ H fun x H1 => (∃ a xs, x = .ref a ∧ H1 a = some (.tup xs)) ∧ t σ H1 fun xs H2 => r x xs H2 Q
variable {o e : Expr} {es : List Expr} {to : TE} {t : TA} {name : Str} {apos cpos : Pos} {id : String} {r : V → List V → Hp → VK → Prop}
def rIndexT (K : PySem.W.Frag) : V → List V → Hp → VK → Prop := fun x vs H Q => ∃ (a : Addr) (ns : List Int) (k : Int), x = .ref a ∧ vs = [.int k] ∧ SqT K H a (ns.map V.int) ∧ k ∈ ns ∧ Q (.int (ns.idxOf k : Nat)) H
end
end L2
namespace Tn
open PySem L2
def spStir : Sp := fun vs H Q _ => ∃ c k : Int, vs = [.int c, .int k] ∧ ∀ z : Int, Q (.int z) H
def spCell (K : PySem.W.Frag) : Sp := fun vs H Q _ => ∃ (a : Addr) (ns : List Int) (k : Int), vs = [.ref a, .int k] ∧ SqL K H a (ns.map V.int) ∧ ns.length ≤ 63 ∧ 0 ≤ k ∧ k ≤ 1000000 ∧ ∀ z : Int, Q (.int z) H
def spMany : Sp := fun vs H Q _ => ∃ c : Int, vs = [.int c] ∧ ∀ m : Nat, 1 ≤ m → m ≤ 60 → Q (.int (m : Int)) H
def spOrder (K : PySem.W.Frag) : Sp := fun vs H Q _ => ∃ (a : Addr) (ns : List Int) (f : Int) (m : Nat), vs = [.ref a, .int f, .int (m : Int)] ∧ SqL K H a (ns.map V.int) ∧ ns.length ≤ 63 ∧ 0 ≤ f ∧ f ≤ 1000 ∧ m ≤ 60 ∧
  ∀ (l : Addr) (ord : List Int) (H' : Hp), H l = none → H' l = some (.lst (ord.map V.int)) → Same H H' → IsOrd ord → ord.length = m → Q (.ref l) H'
def spTold (K : PySem.W.Frag) : Sp := fun vs H Q _ => ∃ (p d : Addr) (ns : List Int), vs = [.ref p, .ref d] ∧ H p = some (.tup (ns.map V.int)) ∧ ns.length ≤ 1000 ∧ (SqL K H d (ns.map V.int) ∨ SqT K H d (ns.map V.int)) ∧ ∀ H', Same H H' → Q (.bl true) H'
structure Blt (mg : Str → Option Value) : Prop where
  len : mg "len" = none
  rng : mg "range" = none
  lst : mg "list" = none
  tup : mg "tuple" = none
  isi : mg "isinstance" = none
  int : mg "int" = none
  bl : mg "bool" = none
theorem boot_isi : bootBuiltins "isinstance" = some (.builtin "isinstance") := by decide +kernel
theorem boot_ty_tuple : bootBuiltins "tuple" = some (.type "tuple") := by decide +kernel
theorem boot_ty_list : bootBuiltins "list" = some (.type "list") := by decide +kernel
theorem boot_ty_range : bootBuiltins "range" = some (.type "range") := by decide +kernel
theorem same_upd {H : Hp} {a : Addr} {o : HO} (h : H a = none) : Same H (upd H a o) := fun b u e => by rw [upd_ne (ne_of_none e h)]; exact e
theorem ints_get {ns : List Int} {i : Nat} {y : V} (h : (ns.map V.int)[i]? = some y) : ∃ z, ns[i]? = some z ∧ y = V.int z := by
  rw [List.getElem?_map] at h
  cases e : ns[i]? with
  | none => rw [e] at h; cases h
  | some z => rw [e] at h; exact ⟨z, rfl, (Option.some.inj h).symm⟩
theorem get_ints {ns : List Int} {i : Nat} {z : Int} (h : ns[i]? = some z) : (ns.map V.int)[i]? = some (V.int z) := by
  rw [List.getElem?_map, h]; rfl
theorem at_ints {ns : List Int} {j : Nat} {z : Int} (h : ns[j]? = some z) : atI (ns.map V.int) (j : Int) = some (V.int z) := atI_nat (get_ints h)
theorem line1000 {n : Nat} (h : n ≤ 1000) : n ≤ sizeLine := Nat.le_of_lt (small1000 h)
section
variable {P : Program} {w : World} {K : PySem.W.Frag} {mg : Str → Option Value} {base : Heap}
end
end Tn
namespace Tn
open PySem PySem.W PySem.Calls PyProof.Rows PySem.Spec PySem.Builtin PySem.Builtin.ObjectAttr PySem.Builtin.Getset_descriptor
structure ExcTxt (K : Frag) (D : Addr) : Prop where
  cls : (clsIn K D).isSome = true
  ga : findIn K (.ref D) "__getattribute__" = some (some (.builtin "BaseException.__getattribute__"))
  hook : findIn K (.ref D) "__getattr__" = some none
  ca : findIn K (.ref D) "__class__" = some (some (.builtin "object.__class__"))
  sp : specialIn K (.builtin "object.__class__") "__get__" = some (some (.builtin "getset_descriptor.__get__"))
  tk : takesIn K (.builtin "object.__class__") = some true
  ob : mroIn K D (.type "object") = some true
  be : mroIn K D (.type "BaseException") = some true
theorem ga_bind (v : Value) : bindSpecial (.builtin "BaseException.__getattribute__") v = pure (.builtin "BaseException.__getattribute__", [v]) := F.excAttr_ValueError.ga.bind v
theorem ga_kind : builtinKind "BaseException.__getattribute__" = some .slot := by decide +kernel
theorem ga_split : splitId "BaseException.__getattribute__" = some ("BaseException", "__getattribute__") := by decide +kernel
def ExAt (h : Heap) (x D : Addr) : Prop := ∃ ox, h.get? x = some ox ∧ ox.cls = .ref D
section
variable {prog : Program} {w : World} {A : Around} {E : Value → Shared → Prop} {s : Shared} {K : Frag} {x D : Addr}
theorem ExAt.type {M : Model} {h : Heap} (I : ExAt h x D) : Looks M h (typeOf (.ref x)) (.ref D) := by
  obtain ⟨ox, hx, hc⟩ := I
  exact hc ▸ (Looks.ld hx).andThen .now
theorem look_data {M : Model} {h : Heap} {a g : Value} {name : Str} (X : K.In h) (ha : findIn K (.ref D) name = some (some a)) (hg : specialIn K a "__get__" = some (some g)) (ht : takesIn K a = some true) :
    Looks M h (find (.ref x) (.ref D) name) (.bind g a) := by
  have L1 := looks_findIn (M := M) X ha
  have L2 : Looks M h (getOf (some a)) (some g) := looks_specialIn X hg
  have L3 := looks_takesIn (M := M) X ht
  have L4 : Looks M h (dataDescriptor? (some a) (some g)) (some (g, a)) := L3.andThen .now
  exact L1.andThen (L2.andThen (L4.andThen (Looks.tag .now)))
theorem class_of {tp : Value} {R : Result → Shared → Prop} (X : K.In s.heap) (I : ExAt s.heap x D) (hm : mroIn K D (.type "object") = some true) (h : R (.ok (.ret (.ref D))) s) :
    codeAny (model prog w) A (.call (.builtin "getset_descriptor.__get__") ⟨[.builtin "object.__class__", .ref x, tp], []⟩) R s := by
  obtain ⟨hh, g, dr, t, os⟩ := s
  have T0 := I.type (M := model prog w)
  have T1 := looks_mroIn (M := model prog w) X hm
  refine codeAny_call_builtin KF.slot_gs.plain KF.entry_gs (KF.slot_gs.check _ _ _ _ _ _ _ _ KF.type_class (KF.args_gs _ _ _) ?_)
  unfold Builtin.«getset_descriptor.__get__»
  unfold descrGet
  rw [dga_obj]; refine wpAny_bind (wpAny_pure ?_)
  unfold descrGetter descrCheckInstance
  unfold descrNameAndClass isInstance
  simp only [KF.owner_class]; repeat lk
  refine ⟨Code.quiet_builtin _ (by decide +kernel), ?_⟩
  refine codeAny_builtin KF.entry_class ?_
  unfold Builtin.«object.__class__»
  unfold shownTypeOf
  repeat lk
  exact h
theorem exc_class {Q : Option Value → Shared → Prop} (X : K.In s.heap) (T : ExcTxt K D) (I : ExAt s.heap x D) (h : Q (some (.ref D)) { s with toks := s.toks + 1 }) : wpAny (model prog w) A (getAttr? (.ref x) "__class__") Q E s := by
  obtain ⟨hh, g, d, t, os⟩ := s
  have L0 := I.type (M := model prog w)
  have L1 := looks_findIn (M := model prog w) X T.ga
  have L2 := looks_findIn (M := model prog w) X T.hook
  have L3 := look_data (M := model prog w) (x := x) X T.ca T.sp T.tk
  have L4 : Looks (model prog w) hh (isInstance (.ref x) (.type "BaseException")) true := L0.andThen (looks_subIn X T.be)
  unfold getAttr? getAttrBy? getAttrBy
  refine wpAny_bind (wpAny_mkText (wpAny_bind (wpAny_attempt (wpAny_holding (wpAny_bind (L0.at (wpAny_bind (L1.at ?_))))))))
  show wpAny _ _ (getAttrByItsOwn _ _ _ _ _ _) _ _ _
  unfold getAttrByItsOwn hookBefore
  refine wpAny_bind (L2.at ?_)
  refine wpAny_bind (wpAny_attempt (wpAny_holding ?_))
  show wpAny _ _ (boundAndCalled _ _ _) _ _ _
  unfold boundAndCalled
  refine wpAny_bind (wpAny_of_eq (ga_bind _) ?_)
  show wpAny _ _ (call (.builtin "BaseException.__getattribute__") [.ref x, .str "__class__" t]) _ _ _
  refine wpAny_call (codeAny_call_builtin F.excAttr_ValueError.ga.plain F.entry_bexc_ga ?_)
  have ha := F.args_bexc_ga (.ref x) (.str "__class__" t)
  simp only [checkBuiltinCall, ga_kind, ga_split]
  refine wpAny_bind (L4.at ?_)
  rw [if_neg (by decide)]
  have go : wpAny (model prog w) A.in1 (Builtin.«object.__getattribute__» ⟨[.ref x, .str "__class__" t], []⟩) (fun fin s' => fin = .done (.ret (.ref D)) ∧ s' = ⟨hh, g, d, t + 1, os⟩) (fun _ _ => False) ⟨hh, g, d, t + 1, os⟩ := by
    unfold Builtin.«object.__getattribute__»
    refine wpAny_bind (wpAny_of_eq (a := (Value.ref x, [Value.str "__class__" t])) rfl ?_)
    refine wpAny_bind (wpAny_of_eq (a := Str.ofString "__class__") rfl ?_)
    refine wpAny_bind (L0.at ?_)
    refine wpAny_bind (L3.at ?_)
    show wpAny _ _ (holding [.builtin "object.__class__"] (call (.builtin "getset_descriptor.__get__") [.builtin "object.__class__", .ref x, .ref D]) >>= ret) _ _ _
    refine wpAny_bind (wpAny_holding (wpAny_call (class_of (s := ⟨hh, g, d, t + 1, os⟩) X I T.ob ?_)))
    exact wpAny_pure ⟨rfl, rfl⟩
  have fin : ∀ (fn : Fin) (s' : Shared), (fn = .done (.ret (.ref D)) ∧ s' = ⟨hh, g, d, t + 1, os⟩) → wpAny (model prog w) A (handedOut (.ref D)) (fun a s' => wpAny (model prog w) A (pure (some a)) Q E s') (fun e s' => wpAny (model prog w) A (do
      let b ← isInstance e (Value.type "AttributeError")
      if b = true then pure none else throw e) Q E s') s' := by
    rintro fn s' ⟨_, rfl⟩
    exact handed_on rfl (wpAny_pure h)
  cases hsig : Manifest.signature? "BaseException.__getattribute__" with
  | none =>
    refine wpAny_pure (wpAny_mono go (fun fn s' z => ?_) fun _ _ z => z.elim)
    have := fin fn s' z
    obtain ⟨rfl, _⟩ := z
    exact this
  | some sig =>
    simp only [argsOk, hsig] at ha
    have h2 : Bind.checkArgs "BaseException.__getattribute__" sig ⟨[.ref x, .str "__class__" t], []⟩ = pure () := ha
    show wpAny _ _ (Bind.checkArgs "BaseException.__getattribute__" sig ⟨[.ref x, .str "__class__" t], []⟩) _ _ _
    rw [h2]
    refine wpAny_pure (wpAny_mono go (fun fn s' z => ?_) fun _ _ z => z.elim)
    have := fin fn s' z
    obtain ⟨rfl, _⟩ := z
    exact this
theorem kitx_exc (T : ExcTxt K D) : KitX K (.ref x) (.ref D) (fun h => ExAt h x D) where
  ty := fun _ _ _ I => I.type
  it := fun _ _ X _ => by
    have hcD := T.cls
    unfold clsIn at hcD
    split at hcD
    · rename_i ho
      intro A' Q' E' s' k q
      unfold isType loadHead
      exact wpAny_bind (wpAny_loadPart (k _ _ (X _ _ ho)) (wpAny_pure q))
    · cases hcD
  ne := fun h tp dd its n sl X htp => by
    have hcD := T.cls
    refine Bool.eq_false_iff.mpr fun q => ?_
    have e : D = tp := Value.ref.inj (beq_iff_eq.mp q)
    subst e
    unfold clsIn at hcD
    split at hcD
    · rename_i ho
      have z := (X _ _ ho).symm.trans htp
      cases z
    · cases hcD
  ca := fun X I k => exc_class X T I k
theorem exc_match {C : Addr} {Q : Bool → Shared → Prop} (X : K.In s.heap) (T : ExcTxt K D) (I : ExAt s.heap x D) (hC : (clsIn K C).isSome = true) (hty : typeIn K (.ref C) = some (.type "type")) (hb : mroIn K C (.type "BaseException") = some true) (hm : mroIn K D (.ref C) = some true)
    (h : Q true s) : wpAny (model prog w) A (excMatches (.ref x) (.ref C)) Q E s := by
  obtain ⟨hh, g, d, t, os⟩ := s
  have L0 := I.type (M := model prog w)
  have L1 : Looks (model prog w) hh (isInstance (.ref C) (.type "tuple")) false := (looks_typeIn (M := model prog w) X hty).andThen (Looks.of_pure (by rw [isSubtype_type]; kernel_rfl))
  have L2 : Looks (model prog w) hh (isType (.ref C)) true := by
    unfold clsIn at hC
    split at hC
    · rename_i ho
      intro A' Q' E' s' k q
      unfold isType loadHead
      exact wpAny_bind (wpAny_loadPart (k _ _ (X _ _ ho)) (wpAny_pure q))
    · cases hC
  have L3 : Looks (model prog w) hh (isSubtype (.ref C) (.type "BaseException")) true := looks_subIn X hb
  have L4 : Looks (model prog w) hh (isSubtype (.ref D) (.ref C)) true := looks_subIn X hm
  unfold excMatches
  refine wpAny_bind (L1.at ?_)
  rw [if_neg Bool.false_ne_true]
  refine wpAny_bind (wpAny_pure ?_)
  simp only [List.forIn_cons, List.forIn_nil]
  unfold isExcClass
  refine wpAny_bind (wpAny_bind (wpAny_bind (wpAny_bind (L2.at ?_))))
  rw [if_pos rfl]
  refine L3.at ?_
  rw [if_neg (by decide)]
  refine wpAny_pure (wpAny_pure ?_)
  refine wpAny_bind (L0.at ?_)
  refine wpAny_bind (wpAny_bind (wpAny_bind (L4.at ?_)))
  rw [if_pos rfl]
  exact wpAny_pure (wpAny_pure (wpAny_pure h))
end
end Tn
namespace Tn
open L2 PySem PySem.W PySem.Calls PyProof.Rows PySem.Spec
section
variable {P : Program} {w : World} {H H' : Hp} {h : Heap} {a : Addr} {o : HO}
theorem obj_has (x : ObjOk P w H h a o) : ∃ u, h.get? a = some u := by
  cases o with
  | lst xs => obtain ⟨_, _, _, _, e⟩ := x; exact ⟨_, e⟩
  | tup xs => obtain ⟨_, _, _, _, e, _⟩ := x; exact ⟨_, e⟩
  | dK kvs => obtain ⟨_, _, _, _, o, _, _, e, _⟩ := x; exact ⟨_, e⟩
  | dT kvs => obtain ⟨_, _, _, _, o, _, _, e, _⟩ := x; exact ⟨_, e⟩
  | set S n => obtain ⟨o, _, _, _, e, _⟩ := x; exact ⟨_, e⟩
  | ins C dx fs => obtain ⟨_, _, _, e, _⟩ := x; exact ⟨_, e⟩
  | own y => obtain ⟨_, e⟩ := x; exact ⟨_, e⟩
  | xd fs => obtain ⟨_, ⟨_, _, _, e, _⟩, _⟩ := x; exact ⟨_, e⟩
  | rng lo hi => obtain ⟨_, _, _, e⟩ := x; exact ⟨_, e⟩
  | frz ob u => obtain ⟨e, _⟩ := x; exact ⟨_, e⟩
  | tbl ps => exact ⟨_, (show h.get? a = some _ from x)⟩
  | lam q => obtain ⟨_, e, _⟩ := x; exact ⟨_, e⟩
  | met f y => exact ⟨_, (show h.get? a = some _ from x)⟩
  | ext φ => obtain ⟨_, ⟨_, e⟩, _⟩ := x; exact ⟨_, e⟩
end
structure Cover (B h0 : Heap) (fs : List Addr) (H' : Hp) : Prop where
  trk : ∀ a o, H' a = some o → ∃ u, B.get? a = some u
  std : ∀ b o, h0.get? b = some o → b ∉ fs → ∃ u, B.get? b = some u
theorem lie_step {P : Program} {w : World} {fs : List Addr} {H H' : Hp} {B h0 h h' : Heap} (u : Un fs [] H H' h0 h) (ok : HOk P w H' h) (c : Cover B h0 fs H') (hf : ∀ b ∈ fs, ∃ o, h.get? b = some o ∧ ∀ vs, o.data ≠ .fields vs)
    (k : B.StaysIn h) (k' : B.StaysIn h') (sl : h.UpToSlots h') : Un fs [] H H' h0 h' ∧ HOk P w H' h' := by
  have inB : ∀ b o v, B.get? b = some v → h.get? b = some o → h'.get? b = some o := fun b o v e q => by
    have := k b v e
    rw [q] at this; cases this
    exact k' b _ e
  refine ⟨⟨fun b o e n hb hx => ?_, fun b o e n hb hx => ?_, u.free, fun b o e hx => ?_, u.tups, u.frzs, u.tbls⟩, fun a o e => ?_⟩
  · obtain ⟨v, hv⟩ := c.std b o e hb
    exact inB b o v hv (u.keep b o e n hb hx)
  · obtain ⟨s1, e1⟩ := u.slot b o e n hb hx
    obtain ⟨o2, e2, d2⟩ := hf b hb
    rw [e1] at e2; cases e2
    obtain ⟨s2, e3⟩ := sl b _ e1 d2
    exact ⟨s2, e3⟩
  · obtain ⟨o1, e1⟩ := u.there b o e hx
    by_cases hb : b ∈ fs
    · obtain ⟨o2, e2, d2⟩ := hf b hb
      obtain ⟨s2, e3⟩ := sl b _ e2 d2
      exact ⟨_, e3⟩
    · obtain ⟨v, hv⟩ := c.std b o e hb
      exact ⟨_, inB b o1 v hv e1⟩
  · refine (ok a o e).stay (fun b v hb q => ?_) (fun _ q => q) fun _ _ q => q
    rcases hb with rfl | hb
    · obtain ⟨z, hz⟩ := c.trk _ _ e
      exact inB _ v z hz q
    · obtain ⟨z, hz⟩ := c.trk _ _ hb
      exact inB _ v z hz q
def CXV (P : Program) (w : World) : CXT := fun outer H s E e s' => ∃ (x : Addr) (cls a0 : Value) (B : Heap) (H' : Hp), e = .ref x ∧ s'.os = s.os ∧ AllBare s'.gens ∧ Un (frs outer) [] H H' s.heap s'.heap ∧ HOk P w H' s'.heap ∧
  Heap.FlyingW B outer x cls a0 s'.heap ∧ Cover B s.heap (frs outer) H' ∧ H' x = none ∧ E cls none H'
theorem fly_frames {B h : Heap} {l : List Env} {x : Addr} {cls a0 : Value} (f : Heap.FlyingW B l x cls a0 h) : ∀ b ∈ frs l, ∃ o, h.get? b = some o ∧ ∀ vs, o.data ≠ .fields vs := fun b hb => (f.2.2.1.mem hb).2
section
variable {P : Program} {w : World} {K : Frag} {mg : Str → Option Value} {base : Heap} {N : List Str} {qual : Str} {scope : Scope} {f : Addr} {cd : Value} {A : Around} {outer : List Env} {s : Shared} {H : Hp} {E : XK}
theorem out_std {X : Cx} {pins : List (Addr × Obj)} {σ : L2.St} {H1 : Hp} {s1 : Shared} (I : Inv X pins σ H1 s1) (hx : X.ex = []) : ∀ b o, X.s₀.heap.get? b = some o → b ∉ X.fs → (∃ o', s1.heap.get? b = some o') ∧ b ∉ frs X.stack := fun b o e hb => by
  refine ⟨I.base.there b o e (by rw [hx]; simp), fun hz => ?_⟩
  rcases List.mem_cons.mp (I.stkSub b hz) with q | q
  · have h1 := Heap.lt_size e
    have h2 := I.ok.above
    rw [q] at h1
    exact absurd (Nat.lt_of_lt_of_le h1 h2) (Nat.lt_irrefl _)
  · exact hb q
theorem passV : Passes (CXV P w) (cxOf (CXV P w) P w K mg base N qual scope f cd A outer s H E) E := by
  intro pins σ H1 s1 e s' I h
  obtain ⟨x, cls, a0, B, H', rfl, os, bare, un, hok, fl, c, hn, hE⟩ := h
  show wpAny _ _ (leaving _ _) _ _ _
  refine wpAny_leaves_onW (base := B) (cls := cls) (a0 := a0) I.ok.frames rfl fl fun h2 fl2 sl => ?_
  obtain ⟨un2, hok2⟩ := lie_step un hok c (fly_frames fl) fl.1 fl2.1 sl
  have J := I.call' (s' := { s' with heap := h2 }) (ch := []) os un2 hok2 bare (fun b z => absurd z (by simp))
  refine ⟨x, cls, a0, B, H', rfl, J.os, J.bare, J.base, J.hok, fl2, ⟨c.trk, fun b o e hb => ?_⟩, hn, hE⟩
  obtain ⟨⟨o', e'⟩, nb⟩ := out_std I rfl b o e hb
  exact c.std b o' e' nb
def Throws (X : Cx) (E : XK) : Prop := ∀ (pins : List (Addr × Obj)) (σ : L2.St) (H1 : Hp) (s1 : Shared) (h' : Heap) (e C : Addr) (vs : List Value), Inv X pins σ H1 s1 → Heap.MadeExcOf s1.heap h' e (.ref C) vs → E (.ref C) none H1 → X.xe (.ref e) { s1 with heap := h' }
theorem throwV : Throws (cxOf (CXV P w) P w K mg base N qual scope f cd A outer s H E) E := by
  intro pins σ H1 s1 h' e C vs I m hE
  show wpAny _ _ (leaving _ _) _ _ _
  have st := I.stack
  have hin : ∀ env ∈ (cxOf (CXV P w) P w K mg base N qual scope f cd A outer s H E).stack, ∀ b, env.frame = some b → b ∈ frs (cxOf (CXV P w) P w K mg base N qual scope f cd A outer s H E).stack := fun env he b hb => List.mem_filterMap.mpr ⟨env, he, hb⟩
  refine wpAny_leaves_madeW (base := hideAll s1.heap (frs (cxOf (CXV P w) P w K mg base N qual scope f cd A outer s H E).stack)) I.ok.frames rfl (fun b o q => of_hideAll _ q) (funFrames_hide st hin) m fun h2 t fl _ _ sl => ?_
  have c : Cover (hideAll s1.heap (frs (cxOf (CXV P w) P w K mg base N qual scope f cd A outer s H E).stack)) s1.heap (frs (cxOf (CXV P w) P w K mg base N qual scope f cd A outer s H E).stack) H1 :=
    ⟨fun a o q => by
      obtain ⟨u, hu⟩ := obj_has (I.hok a o q)
      exact ⟨u, hideAll_get _ hu fun z => by rw [I.stkFree a z] at q; cases q⟩, fun b o q hb => ⟨o, hideAll_get _ q hb⟩⟩
  have fr : ∀ b ∈ frs (cxOf (CXV P w) P w K mg base N qual scope f cd A outer s H E).stack, ∃ o, h'.get? b = some o ∧ ∀ vs, o.data ≠ .fields vs := fun b hb => by
    obtain ⟨_, o, ho, hd⟩ := st.mem hb
    exact ⟨o, m.keeps b o ho, hd⟩
  obtain ⟨un2, hok2⟩ := lie_step (Un.kept m.keeps) (I.hok.kept m.keeps) c fr (fun b o q => m.keeps b o (of_hideAll _ q)) fl.1 sl
  have J := I.call' (s' := { s1 with heap := h2 }) (ch := []) rfl un2 hok2 I.bare (fun b z => absurd z (by simp))
  refine ⟨e, .ref C, .ref t, _, H1, rfl, J.os, J.bare, J.base, J.hok, fl, ⟨c.trk, fun b o e hb => ?_⟩, ?_, hE⟩
  · obtain ⟨⟨o', e'⟩, nb⟩ := out_std I rfl b o e hb
    exact c.std b o' e' nb
  · cases q : H1 e with
    | none => rfl
    | some o =>
      obtain ⟨u, hu⟩ := obj_has (I.hok e o q)
      rw [m.new] at hu; cases hu
theorem funV {x : Str} {st : Stmt} {fd : FuncData} {ps : List Str} {k : Nat} {sp : Sp} (F : L2.Fun K x qual st f fd) (S : FnScope N ps (defScope st)) (len : ∀ vs H Q E, sp vs H Q E → vs.length = ps.length)
    (hbody : ∀ (cdv : Value) (A : Around) (outer : List Env) (s : Shared) (H : Hp) (vs : List V) (Q : VK) (E : XK), Room k (A.deeper (envOfC qual (defScope st) s.heap.objs.size f cdv)) → sp vs H Q E →
      ∃ t, PSs (cxOf (CXV P w) P w K mg base N qual (defScope st) f cdv A outer s H E) (defBody st) t ∧ t { nx := fun _ H' => Q .non H', rt := Q } (start N vs) H) : FnOk P w K mg base (CXV P w) (k + 1) f fd ps sp := by
  obtain ⟨oc, od, kV, doc, pm, an, cdv, ct, osl, rfl, lk, hcd⟩ := F.ex
  exact fn_of lk hcd S len fun A outer s H vs Q E hr hsp => hbody cdv A outer s H vs Q E hr hsp
end
theorem exc_obj {K : Frag} {h : Heap} {C : Addr} {bmB : List Value} {newId : String} (X : K.In h) (q : excIn K C bmB newId = true) :
    ∃ bm N nm qn bs hdct sn sub ab col dd k0 k1 k2 k3 k5 mN, h.get? C = some (excClassObj nm qn C N bs bm hdct sn sub ab col dd k0 k1 k2 k3 k5 newId) ∧ h.Ns N mN ∧ mN "__init__" = none ∧ OwnTail h bmB bm := by
  unfold excIn at q
  split at q
  case h_2 => cases q
  rename_i dd cd sl ho
  split at q
  case h_2 => cases q
  rename_i C' bm k0 k1 k2 k3 n k5 hm hs
  simp only [Bool.and_eq_true, beq_iff_eq, Bool.not_eq_true'] at q
  obtain ⟨⟨⟨⟨⟨e1, e2⟩, e3⟩, e4⟩, e5⟩, e6⟩ := q
  subst e1 e2
  obtain ⟨nm, bs, mro, ns, qn, hd, sn, sub, ab, col, del⟩ := cd
  dsimp only at hm e3 e5 e6
  subst hm e3
  obtain ⟨l⟩ := sl
  simp only at hs
  subst hs
  exact ⟨bm, ns, nm, qn, bs, hd, sn, sub, ab, col, dd, k0, k1, k2, k3, k5, h.nsMap ns, X _ _ ho, .of_isNs (isNs_of_in X e5), nsMap_none_of_in X e5 e6, tail_of_in X e4⟩
def sRaise (C : Addr) (E : XK) (t : TA) : TS := fun _ σ H => t σ H fun vs H1 => vs.length ≤ sizeLine ∧ E (.ref C) none H1
abbrev bmVE : List Value := [.type "ValueError", .type "Exception", .type "BaseException", .type "object"]
theorem ps_raise {X : Cx} {E : XK} {x : Str} {np cpos pos : Pos} {e : Expr} {es : List Expr} {t : TA} {C : Addr} (ht : Throws X E) (hc : X.calm = true) (hg : Gl X x) (hm : X.mg x = some (.ref C)) (hC : excIn X.K C bmVE "ValueError.__new__" = true) (ha : PA X (e :: es) t)
    (hd : (x == ("__debug__" : Str)) = false := by decide) (he : starEach (e :: es) X.env = (false, eval e X.env) :: starEach es X.env := by rfl) (hpl : (backTo cpos (starEach es X.env)).any (·.1) = false := by rfl) :
    PS X (.Raise (some (.Call (.Name x np) (e :: es) [] cpos)) none pos) (sRaise C E t) := by
  intro pins s σ H D I h
  obtain ⟨bm, N, nm, q, bs, hdct, sn, sub, ab, col, dd, k0, k1, k2, k3, k5, mN, o1, o2, o3, o4⟩ := exc_obj I.ok.mod.kin hC
  have hpl2 : (backTo cpos (starEach (e :: es) X.env)).any (·.1) = false := by
    rw [he]; show (false || (backTo cpos (starEach es X.env)).any (·.1)) = false; rw [hpl]; rfl
  refine wpAny_Raise_call_subT F.excBase_ValueError (C := C) (N := N) (nm := nm) (q := q) (bs := bs) (bm := bm) (hdct := hdct) (sn := sn) (sub := sub) (ab := ab) (col := col) (dd := dd) (k0 := k0) (k1 := k1) (k2 := k2) (k3 := k3) (k5 := k5) (mN := mN)
    (o4.hasType F.excBase_ValueError.hasBase) (I.ok.hd hc) hpl2 o3 (ld_glob I hg hm ⟨rfl, ?_⟩ hd)
  have key := ha cpos pins s σ H _ I h
  rw [he] at key ⊢
  refine Calls.evalArgs_plain (wpAny_mono key (fun us s2 z => ?_) fun _ _ y => y)
  obtain ⟨vs, H1, I1, r, hl, hE⟩ := z
  have kp := I1.bk
  exact ⟨rfl, by rw [← r.length]; exact hl, kp _ _ o1, o2.keeps kp, o4.keeps kp, fun h' e m => ht pins σ H1 s2 h' e C us I1 m hE⟩
end Tn
namespace Tn
open L2 PySem PySem.W PySem.Calls PyProof.Rows PySem.Spec
abbrev caught (X : Cx) (x : Addr) : Cx := { X with A := X.A.mark (some (.ref x)), calm := false, xe := fun _ _ => False }
theorem caught_ok {X : Cx} (ok : X.Ok) (x : Addr) : (caught X x).Ok :=
  ⟨ok.mod, ok.kind, ok.glob, ok.blt, ok.above, ok.inj, ok.has, ok.cab, fun z => (nomatch z), ok.frames, ok.stk, ok.exf, ok.bs, ok.bsz, ok.noex, ok.exfs, ok.funs, ok.frf⟩
section
variable {X : Cx} {pins : List (Addr × Obj)} {σ : L2.St} {H : Hp} {s : Shared}
theorem to_caught (I : Inv X pins σ H s) (x : Addr) : Inv (caught X x) pins σ H s := ⟨caught_ok I.ok x, I.os, I.bare, I.base, I.loc, I.cell, I.free, I.freeC, I.pin, I.hok, I.len⟩
theorem of_caught {x : Addr} (ok : X.Ok) (I : Inv (caught X x) pins σ H s) : Inv X pins σ H s := ⟨ok, I.os, I.bare, I.base, I.loc, I.cell, I.free, I.freeC, I.pin, I.hok, I.len⟩
theorem name_gone {M : Model} {A : Around} {E : Value → Shared → Prop} {i : Nat} {n : Str} {pos : Pos} {Q : Unit → Shared → Prop} (I : Inv X pins σ H s) (hN : X.N.Nodup) (hi : X.N[i]? = some n) (hk : X.env.kindOf n = some .local)
    (h : ∀ s', Inv X pins (σ.set i none) H s' → Q () s') : wpAny M A (do bindName X.env n .none; unbindBehindTheSuite X.env n pos) Q E s := by
  obtain ⟨m, hn, hl⟩ := id I.loc
  have hcls : (X.env.scope.kind == .class || (X.env.scope.kind == .module && X.env.locals != X.env.globals)) = false := by rw [I.ok.kind]; rfl
  refine wpAny_nameGoes_keeps hk hn hcls fun h' v hn' hs => h _ ?_
  have hiσ : i < σ.length := by rw [I.len]; exact (List.getElem?_eq_some_iff.mp hi).1
  obtain ⟨oL, _, _, hoL, _⟩ := id hn
  have ne0 : ∀ b o, X.s₀.heap.get? b = some o → b ≠ X.env.locals := fun b o e => Nat.ne_of_lt (Nat.lt_of_lt_of_le (Heap.lt_size e) I.ok.above)
  have tracked : HOk X.prog X.w H h' := fun b ob e => by
    refine (I.hok b ob e).stay (fun c w' hc q => (hs.2 c ?_).trans q) (fun _ q => q) fun _ _ q => q
    rintro rfl
    rcases hc with rfl | hc
    · rw [I.free] at e; cases e
    · rw [I.free] at hc; cases hc
  refine ⟨I.ok, I.os, I.bare, ⟨fun b o e n hb hx => (hs.2 b (ne0 b o e)).trans (I.base.keep b o e n hb hx), fun b o e n hb hx => ?_, I.base.free, fun b o e hx => ?_, I.base.tups, I.base.frzs, I.base.tbls⟩, ⟨_, hn', fun j y v' e1 e2 e3 => ?_⟩, fun y c e => ?_, I.free, I.freeC, fun p hp => ?_, tracked, by simpa using I.len⟩
  · obtain ⟨sl, e1⟩ := I.base.slot b o e n hb hx
    exact ⟨sl, (hs.2 b (ne0 b o e)).trans e1⟩
  · obtain ⟨o', e1⟩ := I.base.there b o e hx
    exact ⟨o', (hs.2 b (ne0 b o e)).trans e1⟩
  · have hj : j ≠ i := by
      rintro rfl
      rw [List.getElem?_set_self hiσ] at e2
      cases e2
    rw [List.getElem?_set_ne (Ne.symm hj)] at e2
    obtain ⟨u', r', q⟩ := hl j y v' e1 e2 e3
    refine ⟨u', r', ?_⟩
    rcases q with ⟨k, e⟩ | ⟨k, c, e, z⟩
    · have ny : y ≠ n := fun e => hj (nodup_ix hN e1 (e ▸ hi))
      exact .inl ⟨k, by simp [ny, e]⟩
    · exact .inr ⟨k, c, e, z.sameBut hs (I.cne y c e)⟩
  · obtain ⟨w', z⟩ := I.cell y c e
    exact ⟨w', z.sameBut hs (I.cne y c e)⟩
  · obtain ⟨e, n, ne, nf, d⟩ := I.pin p hp
    exact ⟨(hs.2 p.1 ne).trans e, n, ne, nf, d⟩
end
abbrev exO (x D : Addr) : HO := .ext fun h => ExAt h x D
theorem exO_ok {P : Program} {w : World} {H : Hp} {h : Heap} {x D : Addr} (e : ExAt h x D) : ObjOk P w H h x (exO x D) :=
  ⟨e, let ⟨o, q, _⟩ := e; ⟨o, q⟩, fun _ _ ⟨o, q, c⟩ k => ⟨o, k o q, c⟩⟩
theorem un_ext {fs : List Addr} {H H' : Hp} {h h' : Heap} {x : Addr} {o : HO} (u : Un fs [] H H' h h') (hx : h.get? x = none) (hn : H' x = none) : Un fs [] H (upd H' x o) h h' :=
  ⟨u.keep, u.slot, fun b ob e n hx' => by
    have : b ≠ x := by rintro rfl; rw [hx] at e; cases e
    rw [upd_ne this]; exact u.free b ob e n hx', u.there, fun b xs e => by
    have z := u.tups b xs e
    rw [upd_ne (ne_of_none z hn)]; exact z, fun b ob v e => by
    have z := u.frzs b ob v e
    rw [upd_ne (ne_of_none z hn)]; exact z, fun b ps e => by
    obtain ⟨m, z⟩ := u.tbls b ps e
    exact ⟨m, by rw [upd_ne (ne_of_none z hn)]; exact z⟩⟩
theorem hok_ext {P : Program} {w : World} {H' : Hp} {h' : Heap} {x D : Addr} (ok : HOk P w H' h') (hn : H' x = none) (e : ExAt h' x D) : HOk P w (upd H' x (exO x D)) h' := fun b u q => by
  by_cases hb : b = x
  · subst hb; rw [upd_same] at q; cases q; exact exO_ok e
  · rw [upd_ne hb] at q
    exact (ok b u q).stay (fun _ _ _ z => z) (fun c z => by rw [upd_ne (ne_of_none z hn)]; exact z) fun c xs z => by rw [upd_ne (ne_of_none z hn)]; exact z
theorem fly_new {B h h0 : Heap} {l : List Env} {x : Addr} {cls a0 : Value} {H' : Hp} (f : Heap.FlyingW B l x cls a0 h) (c : Cover B h0 (frs l) H') : h0.get? x = none := by
  cases q : h0.get? x with
  | none => rfl
  | some o =>
    exfalso
    by_cases hx : x ∈ frs l
    · obtain ⟨o1, e1, d1⟩ := fly_frames f x hx
      obtain ⟨_, _, _, oe, vs, _, _, _, he, _, hd, _⟩ := f
      rw [he] at e1; cases e1
      exact d1 vs hd
    · obtain ⟨u, hu⟩ := c.std x o q hx
      rw [f.2.1] at hu; cases hu
def sTry (K : Frag) (C : Addr) (sp : Sp) (t : TA) (i : Nat) (tH : Addr → TS) : TS := fun D σ H => t σ H fun vs H1 => sp vs H1 (fun _ H2 => D.nx σ H2) fun cls _ H2 => ∃ Dd, cls = .ref Dd ∧ ExcTxt K Dd ∧ mroIn K Dd (.ref C) = some true ∧
  ∀ x, H2 x = none → tH x { nx := fun σ' H' => D.nx (σ'.set i none) H', rt := fun _ _ => False } (σ.set i (some (.ref x))) (upd H2 x (exO x Dd))
structure CatTxt (K : Frag) (C : Addr) : Prop where
  cls : (clsIn K C).isSome = true
  ty : typeIn K (.ref C) = some (.type "type")
  be : mroIn K C (.type "BaseException") = some true
theorem ps_try {X : Cx} {k : Nat} {f C : Addr} {fd : FuncData} {ps : List Str} {sp : Sp} {x cx n : Str} {p cpos epos tp hpos tpos : Pos} {e : Expr} {es : List Expr} {t : TA} {b0 : Stmt} {suite : List Stmt} {tH : Addr → TS} {i : Nat}
    (F : FnOk X.prog X.w X.K X.mg X.base (CXV X.prog X.w) k f fd ps sp) (hr : Room k X.A) (hg : Gl X x) (hm : X.mg x = some (.ref f)) (hk : keepIn X.K (.ref f) = true) (hb : Binds X.K fd ps [])
    (hstk : X.stack = X.env :: X.outer) (hfr : X.env.frame = some X.env.locals) (hgC : Gl X cx) (hmC : X.mg cx = some (.ref C)) (T : CatTxt X.K C) (hN : X.N.Nodup) (hi : X.N[i]? = some n) (hkn : X.env.kindOf n = some .local)
    (ha : PA X.nox (e :: es) t) (hs : ∀ y, PSs (caught X y) (b0 :: suite) (tH y))
    (hdb : (x == ("__debug__" : Str)) = false := by decide) (hdC : (cx == ("__debug__" : Str)) = false := by decide) (he : starEach (e :: es) X.env = (false, eval e X.env) :: starEach es X.env := by rfl) (hpl : (backTo cpos (starEach es X.env)).any (·.1) = false := by rfl)
    (hsw : swapsWith (.Call (.Name x p) (e :: es) [] cpos) none epos.line X.env = pure false := by rfl) :
    PS X (.Try [.Expr (.Call (.Name x p) (e :: es) [] cpos) epos] [.ExceptHandler (some (.Name cx tp)) (some n) (b0 :: suite) hpos] [] [] tpos) (sTry X.K C sp t i tH) := by
  intro pins s σ H D I h
  refine wpAny_Try_except (wpAny_execs_cons ?_)
  refine wpAny_Expr_any ?_ I.quiet hsw
  refine wpAny_Call_Name_kw (ld_glob I hg hm ?_ hdb)
  refine callWith_K (h₀ := X.base) I.ok.mod.kin hk (wpAny_mono (ha cpos pins s σ H _ (I.wish _) h) (fun us s1 z => ?_) fun _ _ z => False.elim z) he hpl
  obtain ⟨vs, H1, I1', r, q⟩ := z
  have I1 : Inv X pins σ H1 s1 := I1'.unwish
  refine ⟨I1.kIn, ?_⟩
  have hl : us.length = ps.length := by rw [← r.length]; exact F.len _ _ _ _ q
  have hbd := hb s1 us I1.kIn (by simpa using hl)
  rw [List.append_nil] at hbd
  refine wpAny_call (codeAny_mono (F.run X.A X.stack s1 H1 ⟨us, []⟩ us vs _ _ hr I1.env0 hbd r q) fun rr s' hq => ?_)
  cases rr with
  | ok fl =>
    cases fl with
    | ret u =>
      obtain ⟨v, H2, I2, _, q2⟩ := I1.after hq
      exact wpAny_execs_nil (wpAny_execs_nil ⟨σ, H2, I2, q2⟩)
    | next => exact False.elim hq
    | brk => exact False.elim hq
    | cont => exact False.elim hq
  | error e =>
    obtain ⟨y, cls, a0, B, H', rfl, os, bare, un, hok, fl, c, hn, Dd, rfl, TD, hmr, hH⟩ := hq
    have nw : s1.heap.get? y = none := fly_new fl c
    have hfr0 := I1.ok.frames
    rw [hstk] at fl hfr0 un c
    refine wpAny_looks_onW (base := B) hfr0 hfr fl fun h1 hd1 sl1 => ?_
    obtain ⟨un1, hok1⟩ := lie_step un hok c (fly_frames fl) fl.1 hd1.1 sl1
    refine wpAny_landsW hd1 fun h2 fl2 sl2 => ?_
    obtain ⟨un2, hok2⟩ := lie_step un1 hok1 c (fun b hb => (hd1.2.2.1.mem hb).2) hd1.1 fl2.1 sl2
    have ex2 : ExAt h2 y Dd := let ⟨ob, e1, e2⟩ := fl2.there; ⟨ob, e1, e2⟩
    have I2 : Inv X pins σ H' { s' with heap := h2 } := I1.call' (s' := { s' with heap := h2 }) (ch := []) os (by rw [hstk]; exact un2) hok2 bare (fun b z => absurd z (by simp))
    refine wpAny_handleBy_cons (codeAny_handlers_test ?_) (by intro z; cases z)
    refine ld_glob (X := caught X y) (to_caught I2 y) hgC hmC ?_ hdC
    refine exc_match (K := X.K) (D := Dd) I2.kIn TD ex2 T.cls T.ty T.be hmr ?_
    refine codeAny_handlers_suite_as ?_
    refine lands_againW fl2 fun h3 fl3 sl3 => ?_
    obtain ⟨un3, hok3⟩ := lie_step un2 hok2 c (fly_frames fl2) fl2.1 fl3.1 sl3
    have ex3 : ExAt h3 y Dd := let ⟨ob, e1, e2⟩ := fl3.there; ⟨ob, e1, e2⟩
    have I3 : Inv X pins σ (upd H' y (exO y Dd)) { s' with heap := h3 } := I1.call' (s' := { s' with heap := h3 }) (ch := []) os (by rw [hstk]; exact un_ext un3 nw hn) (hok_ext hok3 hn ex3) bare (fun b z => absurd z (by simp))
    refine store_ok (X := caught X y) (to_caught I3 y) hN hi (.inl hkn) (v := .ref y) rfl (fun s4 I4 => ?_) (.inr hkn)
    refine wpAny_mono (hs y pins s4 _ _ _ I4 (hH y hn)) (fun f s5 z => ?_) fun _ _ z => False.elim z
    cases f with
    | next =>
      obtain ⟨σ5, H5, I5, q5⟩ := z
      exact name_gone (of_caught I.ok I5) hN hi hkn fun s6 I6 => ⟨_, H5, I6, q5⟩
    | ret u => obtain ⟨_, _, _, _, _, q5⟩ := z; exact False.elim q5
    | brk => obtain ⟨_, _, _, q5⟩ := z; exact False.elim q5
    | cont => obtain ⟨_, _, _, q5⟩ := z; exact False.elim q5
def rIsX (K : Frag) : List V → Hp → VK → Prop := fun xs H Q => ∃ x D c b, xs = [.ref x, c] ∧ H x = some (exO x D) ∧ ExcTxt K D ∧
  ((∃ n, c = .ty n ∧ kitOne K (.ref D) (.type n) = some b) ∨ (∃ C, c = .ref C ∧ kitOne K (.ref D) (.ref C) = some b) ∨ ∃ (tp : Addr) (cs : List Addr), c = .ref tp ∧ H tp = some (.tup (cs.map V.ref)) ∧ kitAny K (.ref D) (cs.map Value.ref) = some b) ∧ Q (.bl b) H
theorem refs_vals : ∀ (cs : List Addr) {us : List Value}, Vals (cs.map V.ref) us → us = cs.map Value.ref
  | [], _, .nil => rfl
  | c :: cs, _, .cons r t => by rw [refs_vals cs t]; cases r; rfl
theorem call_isx {X : Cx} : CallR X (.builtin "isinstance") (rIsX X.K) := by
  intro pins s σ H xs us Q I r h
  obtain ⟨x, D, c, b, rfl, hx, T, hc, q⟩ := h
  obtain ⟨u, w', rfl, rx, ry⟩ := vals2 r
  obtain rfl : u = Value.ref x := rx
  obtain ⟨ex, _⟩ := I.hok x _ hx
  have fin : ∀ tk, EP X pins σ Q (.bool b) { s with toks := tk } := fun tk => ⟨.bl b, H, I.tok _, rfl, q⟩
  rcases hc with ⟨n, rfl, e⟩ | ⟨C, rfl, e⟩ | ⟨tp, cs, rfl, ht, e⟩
  · obtain rfl : w' = Value.type n := ry
    exact kia_one (kitx_exc T) I.kIn ex e (by intro z; cases z) fin
  · obtain rfl : w' = Value.ref C := ry
    exact kia_one (kitx_exc T) I.kIn ex e (by intro z; cases z) fin
  · obtain rfl : w' = Value.ref tp := ry
    obtain ⟨_, its, rv, o, e1, e2, ⟨nn, e3⟩, e4⟩ := I.hok tp _ ht
    obtain rfl := refs_vals cs rv
    obtain ⟨oc, od, oda, osl⟩ := o
    dsimp only at e2 e3 e4
    subst e2 e3 e4
    exact kia_tup (kitx_exc T) I.kIn ex e1 e (by intro z; cases z) fin
end Tn
namespace Tn
open PySem PySem.Calls
section
variable {prog : Program} {w : World} {A : Around} {E : Value → Shared → Prop} {s : Shared}
end
end Tn
namespace L2
open PySem PySem.Spec PyProof.Rows
section
variable {X : Cx}
theorem int_items : ∀ {ns : List Int} {its : List Value}, Vals (ns.map V.int) its → ∃ xs : List (Int × Tok), its = xs.map (fun p => Value.int p.1 p.2) ∧ xs.map (·.1) = ns
  | [], _, .nil => ⟨[], rfl, rfl⟩
  | n :: ns, _, .cons r t => by
    obtain ⟨xs, rfl, e⟩ := int_items t
    obtain ⟨tk, rfl⟩ := r
    exact ⟨(n, tk) :: xs, rfl, by rw [List.map_cons, e]⟩
theorem sum_ints {prog : Program} {w : World} {A : Around} {E : Value → Shared → Prop} {s : Shared} {l : Addr} {xs : Array (Int × Tok)} {Q : Value → Shared → Prop} (hh : A.handled = none) (hl : s.heap.IsList l (intItems xs))
    (h : ∀ h' tk t', (∀ b o, s.heap.get? b = some o → h'.get? b = some o) → Q (.int (preSum (numAt xs) xs.size) t') { s with heap := h', toks := tk }) : wpAny (model prog w) A (call (.builtin "sum") [.ref l]) Q E s := by
  refine call_sum_walkG (iter_intList hl fun s₂ e st hfp hlI => ?_)
  subst e
  refine ⟨_, _, _, _, _, _, numAt xs, rfl, Walks.list (A := A.in1) hh _ l hlI (intItems xs), st, hfp, (fun _ _ => intItems_at), fun h' tk t' hk => ?_⟩
  have := h h' tk t' (old_kept hk)
  simpa [intItems] using this
theorem call_sumL (hc : X.calm = true) : CallR X (.builtin "sum") (fun vs H Q => ∃ (p : Addr) (ns : List Int), vs = [.ref p] ∧ SqL X.K H p (ns.map V.int) ∧ Q (.int ns.sum) H) := by
  intro pins s σ H xs us Q I r h
  obtain ⟨p, ns, rfl, hp, q⟩ := h
  obtain ⟨u, rfl, rx⟩ := vals1 r
  cases rx
  obtain ⟨its, rv, pl, _⟩ := I.list hp
  obtain ⟨zs, rfl, hz⟩ := int_items rv
  have hl : s.heap.IsList p (intItems zs.toArray) := by
    have := pl.isList
    simpa [intItems] using this
  refine sum_ints (I.ok.hd hc) hl fun h' tk t' kp => ⟨.int ns.sum, H, I.kept kp, ⟨t', ?_⟩, q⟩
  have e : preSum (numAt zs.toArray) zs.toArray.size = ns.sum := by
    rw [preSum_eq, ← hz]
    simp only [List.size_toArray]
    rw [List.take_of_length_le (by simp)]
  rw [e]
def eqK (x y : V) : Option Bool := if flatV x && flatV y then some (eqV x y) else if x = y then (match x with | .ref _ => some true | _ => none) else none
theorem eqK_at {A : Around} {s : Shared} {x y : V} {u v : Value} {b : Bool} (h : eqK x y = some b) (rx : RelV x u) (ry : RelV y v) : SeqAt.EqAt A s u v b := by
  unfold eqK at h
  split at h
  · rename_i hf
    cases h
    have hf' : flatV x = true ∧ flatV y = true := by simpa using hf
    exact eqAt_V rx ry hf'.1 hf'.2
  · split at h
    · rename_i e
      subst e
      cases x with
      | ref a =>
        cases h
        obtain rfl : u = Value.ref a := rx
        obtain rfl : v = Value.ref a := ry
        exact SeqAt.EqAt.same _
      | _ => cases h
    · cases h
def eqKs : List V → List V → Option Bool
  | [], [] => some true
  | x :: xs, y :: ys => (eqK x y).bind fun b => (eqKs xs ys).map fun c => b && c
  | _, _ => none
theorem eqKs_get : ∀ {xs ys : List V} {b : Bool}, eqKs xs ys = some b → xs.length = ys.length ∧ ∃ e : Nat → Bool, (∀ j x y, xs[j]? = some x → ys[j]? = some y → eqK x y = some (e j)) ∧ (List.range xs.length).all e = b
  | [], [], b, h => by cases h; exact ⟨rfl, fun _ => true, (fun _ _ _ e => nomatch e), rfl⟩
  | x :: xs, y :: ys, b, h => by
    unfold eqKs at h
    obtain ⟨b1, h1, h⟩ := Option.bind_eq_some_iff.mp h
    obtain ⟨b2, h2, rfl⟩ := Option.map_eq_some_iff.mp h
    obtain ⟨hl, e, he, ha⟩ := eqKs_get h2
    refine ⟨by simp [hl], fun j => match j with | 0 => b1 | j + 1 => e j, fun j a c ea ec => ?_, ?_⟩
    · cases j with
      | zero => simp only [List.getElem?_cons_zero, Option.some.injEq] at ea ec; subst ea ec; exact h1
      | succ j => simp only [List.getElem?_cons_succ] at ea ec; exact he j a c ea ec
    · rw [List.length_cons, List.range_succ_eq_map, List.all_cons, List.all_map, ← ha]
      rfl
  | [], _ :: _, _, h => nomatch h
  | _ :: _, [], _, h => nomatch h
def rEqS (K : PySem.W.Frag) (neg : Bool) : R2 := fun x y H Q => ∃ a b xs ys, x = .ref a ∧ y = .ref b ∧ SqL K H a xs ∧ SqL K H b ys ∧ ((xs.length ≠ ys.length ∧ Q (.bl neg) H) ∨ ∃ e, eqKs xs ys = some e ∧ Q (.bl (if neg then !e else e)) H)
theorem items_eq {xs ys : List V} {its its2 : List Value} {A : Around} {s : Shared} {e : Nat → Bool} (r1 : Vals xs its) (r2 : Vals ys its2) (he : ∀ j x y, xs[j]? = some x → ys[j]? = some y → eqK x y = some (e j)) :
    ∀ j (h1 : j < its.toArray.size) (h2 : j < its2.toArray.size), SeqAt.EqAt A s its.toArray[j] its2.toArray[j] (e j) := fun j h1 h2 => by
  have l1 := r1.length
  have l2 := r2.length
  have h1' : j < xs.length := by rw [l1]; simpa using h1
  have h2' : j < ys.length := by rw [l2]; simpa using h2
  obtain ⟨v1, e1, rv1⟩ := r1.get (i := j) (x := xs[j]) (by simp [h1'])
  obtain ⟨v2, e2, rv2⟩ := r2.get (i := j) (x := ys[j]) (by simp [h2'])
  have i1 : its.toArray[j] = v1 := by
    have := (List.getElem?_eq_some_iff.mp e1).2
    simpa using this
  have i2 : its2.toArray[j] = v2 := by
    have := (List.getElem?_eq_some_iff.mp e2).2
    simpa using this
  rw [i1, i2]
  exact eqK_at (he j xs[j] ys[j] (by simp [h1']) (by simp [h2'])) rv1 rv2
theorem op_eqL (hu : X.A.units < cLine) : OpR X (compareOp .Eq) (rEqS X.K false) := by
  intro pins s σ H x y v u Q I rx ry h
  obtain ⟨a, b, xs, ys, rfl, rfl, ha, hb, h⟩ := h
  cases rx
  cases ry
  obtain ⟨its, r1, p1, _⟩ := I.list ha
  obtain ⟨its2, r2, p2, _⟩ := I.list hb
  have l1 := r1.length
  have l2 := r2.length
  rcases h with ⟨hl, q⟩ | ⟨k, hk, q⟩
  · exact SeqAt.eq_list_lengthsAt p1.isList p2.isList (by simp only [List.size_toArray, bne_iff_ne]; omega) hu ⟨.bl false, H, I, rfl, q⟩
  · obtain ⟨hl, e, he, hall⟩ := eqKs_get hk
    refine SeqAt.eq_listAt (e := e) p1.isList p2.isList (by simp only [List.size_toArray]; omega) hu (items_eq r1 r2 he) ⟨.bl k, H, I, ?_, q⟩
    show Value.bool _ = Value.bool k
    rw [← hall, List.size_toArray, ← l1]
theorem op_neL (hu : X.A.units < cLine) : OpR X (compareOp .NotEq) (rEqS X.K true) := by
  intro pins s σ H x y v u Q I rx ry h
  obtain ⟨a, b, xs, ys, rfl, rfl, ha, hb, h⟩ := h
  cases rx
  cases ry
  obtain ⟨its, r1, p1, _⟩ := I.list ha
  obtain ⟨its2, r2, p2, _⟩ := I.list hb
  have l1 := r1.length
  have l2 := r2.length
  rcases h with ⟨hl, q⟩ | ⟨k, hk, q⟩
  · exact SeqAt.RcNeAt.lists_lengths p1.isList p2.isList (by simp only [List.size_toArray, bne_iff_ne]; omega) hu X.prog X.w X.xe _ ⟨.bl true, H, I, rfl, q⟩
  · obtain ⟨hl, e, he, hall⟩ := eqKs_get hk
    refine SeqAt.RcNeAt.lists (e := e) p1.isList p2.isList (by simp only [List.size_toArray]; omega) hu (items_eq r1 r2 he) X.prog X.w X.xe _ ⟨.bl (!k), H, I, ?_, q⟩
    show Value.bool _ = Value.bool (!k)
    rw [← hall, List.size_toArray, ← l1]
end
theorem comp_inv {J : It} {n : Nat} {te : TE} {js : List Nat} {σ : St} {H1 : Hp} {Q : VK} {D : Addr} (P : Nat → List V → Hp → Prop) (h0 : P 0 [] (upd H1 D (.lst []))) (hD : ∀ i acc H', P i acc H' → H' D = some (.lst acc) ∧ acc.length = i) (hn : n ≤ sizeLine)
    (hgo : ∀ i acc H', i < n → P i acc H' → J.go i H') (hst : ∀ acc H', P n acc H' → J.stop n H' ∧ Q (.ref D) H')
    (hstep : ∀ i acc H' y H2 (R : VK), i < n → P i acc H' → J.yld i H' y H2 → (∀ z H5, H5 D = some (.lst acc) → P (i + 1) (acc ++ [z]) (upd H5 D (.lst (acc ++ [z]))) → R z H5) → te (some y :: js.map fun j => (σ[j]?).getD none) H2 R) :
    CompW J (gName 0) tYes te js σ H1 Q D := by
  refine ⟨fun i m acc σ' H' => m = n - i ∧ i ≤ n ∧ P i acc H' ∧ ∃ v, σ' = v :: js.map fun j => (σ[j]?).getD none, ⟨n, by simp, Nat.zero_le _, h0, none, rfl⟩, ?_⟩
  rintro i m acc σ' H' ⟨rfl, hi, hP, v, rfl⟩
  refine ⟨(hD i acc H' hP).1, ?_⟩
  by_cases hlt : i < n
  · refine .inr ⟨hgo i acc H' hlt hP, by rw [(hD i acc H' hP).2]; omega, fun y H2 hy => ?_⟩
    show te (some y :: js.map fun j => (σ[j]?).getD none) _ _
    exact hstep i acc H' y H2 _ hlt hP hy fun z H5 e1 e2 => ⟨e1, n - (i + 1), by omega, rfl, hlt, e2, _, rfl⟩
  · have e : i = n := by omega
    subst e
    exact .inl (hst acc H' hP)
end L2
namespace L2
open PySem PySem.Spec PyProof.Rows
section
variable {X : Cx}
end
end L2
namespace L2
open PySem
def csB (S scope : Scope) (x : Str) (N P : List Str) (js : List Nat) : Bool :=
  (scope.kind == .function) && scope.names.all (fun y => !(y.2 == .cell)) && scope.names.all (fun y => !(y.2 == .local) || scope.names.lookup y.1 == some .local) &&
  scope.names.all (fun y => !(y.2 == .free) || (S.names.lookup y.1 == some .cell || S.names.lookup y.1 == some .free)) && (scope.names.lookup x == some .local) && decide N.Nodup && (N == x :: (js.map fun j => (P[j]?).getD x)) &&
  js.all (fun j => match P[j]? with | some y => scope.names.lookup y == some .free | none => false)
theorem cs_of {S scope : Scope} {x : Str} {N P : List Str} {js : List Nat} (h : csB S scope x N P js = true) : CScope S scope x N P js := by
  unfold csB at h
  simp only [Bool.and_eq_true, List.all_eq_true, beq_iff_eq, decide_eq_true_eq, Bool.or_eq_true, Bool.not_eq_true'] at h
  obtain ⟨⟨⟨⟨⟨⟨⟨h1, h2⟩, h3⟩, h4⟩, h5⟩, h6⟩, h7⟩, h8⟩ := h
  refine ⟨h1, fun y hy e => ?_, fun y hy e => ?_, fun y hy e => ?_, h5, h6, h7, fun j hj => ?_⟩
  · have := h2 y hy; rw [e] at this; exact absurd this (by decide)
  · rcases h3 y hy with z | z
    · rw [e] at z; exact absurd z (by decide)
    · exact z
  · rcases h4 y hy with z | z
    · rw [e] at z; exact absurd z (by decide)
    · exact z
  · have := h8 j hj
    split at this
    · rename_i y ey
      exact ⟨y, ey, by simpa using this⟩
    · cases this
end L2
namespace L2
open PySem PySem.Spec PyProof.Rows
def isStar : Expr → Bool
  | .Starred _ _ => true
  | _ => false
theorem star_cons {e : Expr} {es : List Expr} {env : Env} (h : isStar e = false) : starEach (e :: es) env = (false, eval e env) :: starEach es env := by
  rw [starEach]
  intro e' p z
  rw [z] at h
  cases h
theorem pa_c {X : Cx} {e : Expr} {es : List Expr} {te : TE} {t : TA} (ha : PE X e te) (hr : PA X es t) (hn : isStar e = false := by rfl) : PA X (e :: es) (tCons te t) := pa_cons ha hr (star_cons hn)
end L2
namespace L2
open PySem
theorem if_go {a : TT} {t u : TS} {D : Ends} {σ : St} {H : Hp} (A : Bool) (ha : ∀ Q : Bool → Hp → Prop, Q A H → a σ H Q) (hT : A = true → t D σ H) (hF : A = false → u D σ H) : tIfS a t u D σ H := by
  refine ha _ ?_
  cases A with
  | true => exact hT rfl
  | false => exact hF rfl
end L2
namespace Tn
open PySem L2
def lens (xss : List (List Int)) : List Int := xss.map fun x => (x.length : Int)
def before (xss : List (List Int)) (w : Nat) : Int := ((lens xss).take w).sum
def togF (ord : List Int) (xss : List (List Int)) : List Int := ord.flatMap fun w => (xss.getD w.toNat []).map fun z => before xss w.toNat + z
def Tups (H : Hp) (ps : List Addr) (xss : List (List Int)) : Prop := Paired (fun p xs => H p = some (.tup (xs.map V.int))) ps xss
theorem Tups.len {H : Hp} : ∀ {ps : List Addr} {xss : List (List Int)}, Tups H ps xss → ps.length = xss.length
  | _, _, .nil => rfl
  | _, _, .cons _ t => by have := Tups.len t; simp [this]
theorem Tups.get {H : Hp} : ∀ {ps : List Addr} {xss : List (List Int)} {i : Nat} {p : Addr}, Tups H ps xss → ps[i]? = some p → ∃ xs, xss[i]? = some xs ∧ H p = some (.tup (xs.map V.int))
  | _, _, _, _, .nil, h => nomatch h
  | _, _, 0, _, .cons e _, h => by cases h; exact ⟨_, rfl, e⟩
  | _, _, i + 1, _, .cons _ t, h => Tups.get (i := i) t (by simpa using h)
theorem Tups.mono {H H' : Hp} (s : Same H H') : ∀ {ps : List Addr} {xss : List (List Int)}, Tups H ps xss → Tups H' ps xss
  | _, _, .nil => .nil
  | _, _, .cons e t => .cons (s _ _ e) (Tups.mono s t)
theorem Tups.app {H : Hp} : ∀ {ps qs : List Addr} {xss yss : List (List Int)}, Tups H ps xss → Tups H qs yss → Tups H (ps ++ qs) (xss ++ yss)
  | _, _, _, _, .nil, t => t
  | _, _, _, _, .cons e t, t' => .cons e (Tups.app t t')
theorem Tups.rep {H : Hp} {p : Addr} {xs : List Int} (e : H p = some (.tup (xs.map V.int))) : ∀ n, Tups H (List.replicate n p) (List.replicate n xs)
  | 0 => .nil
  | n + 1 => .cons e (Tups.rep e n)
theorem Tups.take {H : Hp} : ∀ {ps : List Addr} {xss : List (List Int)} (n : Nat), Tups H ps xss → Tups H (ps.take n) (xss.take n)
  | _, _, 0, _ => by simp; exact .nil
  | _, _, _ + 1, .nil => by simp; exact .nil
  | _, _, n + 1, .cons e t => by simp; exact .cons e (Tups.take n t)
theorem Tups.drop {H : Hp} : ∀ {ps : List Addr} {xss : List (List Int)} (n : Nat), Tups H ps xss → Tups H (ps.drop n) (xss.drop n)
  | _, _, 0, t => by simpa using t
  | _, _, _ + 1, .nil => by simp; exact .nil
  | _, _, n + 1, .cons _ t => by simpa using Tups.drop n t
theorem refs_get {ps : List Addr} {i : Nat} {y : V} (h : (ps.map V.ref)[i]? = some y) : ∃ p, ps[i]? = some p ∧ y = V.ref p := by
  rw [List.getElem?_map] at h
  obtain ⟨p, h1, h2⟩ := Option.map_eq_some_iff.mp h
  exact ⟨p, h1, h2.symm⟩
def spFirsts (K : PySem.W.Frag) : Sp := fun vs H Q _ => ∃ (l : Addr) (ps : List Addr) (xss : List (List Int)), vs = [.ref l] ∧ SqL K H l (ps.map V.ref) ∧ ps.length ≤ 1000 ∧ Tups H ps xss ∧
  ∀ (f : Addr) (H' : Hp), H f = none → H' f = some (.lst (((List.range xss.length).map fun i => before xss i).map V.int)) → Same H H' → Q (.ref f) H'
def spPut (K : PySem.W.Frag) (C : Addr) : Sp := fun vs H Q E => ∃ (o l : Addr) (ord : List Int) (ps : List Addr) (xss : List (List Int)), vs = [.ref o, .ref l] ∧ SqT K H o (ord.map V.int) ∧ ord.length ≤ 1000 ∧ (∀ w ∈ ord, 0 ≤ w ∧ w < ord.length) ∧
  SqL K H l (ps.map V.ref) ∧ ps.length ≤ 1000 ∧ Tups H ps xss ∧ (∀ x ∈ xss, x.length ≤ 1000) ∧
  (xss.length = ord.length → (lens xss).sum ≤ 60 → ∀ (t : Addr) (H' : Hp), H t = none → H' t = some (.tup ((togF ord xss).map V.int)) → Same H H' → Q (.ref t) H') ∧
  (¬ (xss.length = ord.length ∧ (lens xss).sum ≤ 60) → ∀ H', Same H H' → E (.ref C) none H')
theorem pass0V {P : Program} {w : World} {X : Cx} : Passes (CXV P w) X E0 := fun _ _ _ _ _ _ _ ⟨_, _, _, _, _, _, _, _, _, _, _, _, _, h⟩ => h.elim
end Tn
namespace Tn
open PySem L2
theorem boot_sum : bootBuiltins "sum" = some (.builtin "sum") := by decide +kernel
theorem boot_min : bootBuiltins "min" = some (.builtin "min") := by decide +kernel
def rLen (K : PySem.W.Frag) : List V → Hp → VK → Prop := fun xs H Q => ∃ p ys, xs = [.ref p] ∧ (SqL K H p ys ∨ SqT K H p ys) ∧ Q (.int ys.length) H
end Tn
namespace Tn
open PySem L2
theorem line_mil {n : Nat} (h : n ≤ 10000000) : n ≤ sizeLine := by rw [sizeLine_eq]; omega
end Tn
namespace Tn
open PySem L2
def spSizes (K : PySem.W.Frag) : Sp := fun vs H Q _ => ∃ (a : Addr) (ns : List Int) (m : Nat), vs = [.ref a, .int (m : Int)] ∧ SqL K H a (ns.map V.int) ∧ ns.length ≤ 63 ∧ 1 ≤ m ∧ m ≤ 60 ∧
  ∀ (l : Addr) (sz : List Int) (H' : Hp), H l = none → H' l = some (.lst (sz.map V.int)) → Same H H' → sz.length = m → (∀ z ∈ sz, 1 ≤ z) → sz.sum ≤ 60 → Q (.ref l) H'
end Tn
namespace Tn
open PySem L2
def spDue (K : PySem.W.Frag) : Sp := fun vs H Q _ => ∃ (o l : Addr) (ord : List Int) (ps : List Addr) (xss : List (List Int)), vs = [.ref o, .ref l] ∧ SqT K H o (ord.map V.int) ∧ ord.length ≤ 1000 ∧ (∀ w ∈ ord, 0 ≤ w ∧ w < ord.length) ∧
  SqL K H l (ps.map V.ref) ∧ Tups H ps xss ∧ xss.length = ord.length ∧ (∀ x ∈ xss, x.length ≤ 1000) ∧ ∀ (f : Addr) (H' : Hp), H f = none → H' f = some (.lst ((togF ord xss).map V.int)) → Same H H' → Q (.ref f) H'
def spRefPut (K : PySem.W.Frag) : Sp := fun vs H Q _ => ∃ (o l : Addr) (ord : List Int) (ps : List Addr) (xss : List (List Int)), vs = [.ref o, .ref l] ∧ SqT K H o (ord.map V.int) ∧ ord.length ≤ 1000 ∧ (∀ w ∈ ord, 0 ≤ w ∧ w < ord.length) ∧
  SqL K H l (ps.map V.ref) ∧ ps.length ≤ 1000 ∧ Tups H ps xss ∧ (∀ x ∈ xss, x.length ≤ 1000) ∧ ¬ (xss.length = ord.length ∧ (lens xss).sum ≤ 60) ∧ ∀ H', Same H H' → Q (.bl true) H'
structure Excs (K : PySem.W.Frag) (T C o1 o2 o3 o4 r1 r2 r3 : Addr) : Prop where
  xC : PySem.W.excIn K C bmVE "ValueError.__new__" = true
  tx : ExcTxt K C
  ct : CatTxt K T
  mr : PySem.W.mroIn K C (.ref T) = some true
  ve : PySem.W.kitOne K (.ref C) (.type "ValueError") = some true
  a4 : PySem.W.kitAny K (.ref C) [.ref o1, .ref o2, .ref o3, .ref o4] = some false
  a3 : PySem.W.kitAny K (.ref C) [.ref r1, .ref r2, .ref r3] = some false
theorem kit_refl (K : PySem.W.Frag) (C : Addr) : PySem.W.kitOne K (.ref C) (.ref C) = some true := by
  unfold PySem.W.kitOne
  rw [if_pos (by simp)]
theorem boot_ve : bootBuiltins "ValueError" = some (.type "ValueError") := by decide +kernel
end Tn
namespace Tn
open PySem L2
theorem cut_head {α : Type} (f : α → V) (ps : List α) (k : Nat) (h : k ≤ ps.length) : cutV (ps.map f) none (some (k : Int)) = (ps.take k).map f := by
  unfold cutV
  rw [HT.sIx_none, HT.sIx_nat, List.drop_zero, List.length_map, Nat.min_eq_left h, Nat.sub_zero, List.map_take]
theorem cut_tail {α : Type} (f : α → V) (ps : List α) (k : Nat) (h : k ≤ ps.length) : cutV (ps.map f) (some (k : Int)) none = (ps.drop k).map f := by
  unfold cutV
  rw [HT.sIx_none, HT.sIx_nat, List.length_map, Nat.min_eq_left h, List.take_of_length_le (by rw [List.length_drop, List.length_map]; exact Nat.le_refl _), List.map_drop]
theorem gname_go {i : Nat} {v : V} {σ : L2.St} {H : Hp} {Q : L2.St → Hp → Prop} (h : Q (σ.set i (some v)) H) : gName i v σ H Q := h
theorem seq_if {c : TT} {t u r : TS} {D : Ends} {σ : L2.St} {H : Hp} (C : L2.St → Hp → Prop) (hrest : ∀ σ' Hx, C σ' Hx → r D σ' Hx) (hmain : (∀ σ' Hx, C σ' Hx → r D σ' Hx) → tIfS c t u { D with nx := r D } σ H) : tSeq (tIfS c t u) r D σ H := hmain hrest
end Tn
namespace Tn
open PySem L2
theorem Tups.updL {H : Hp} {op : Addr} {us : List V} {o : HO} (e : H op = some (.lst us)) : ∀ {ps : List Addr} {xss : List (List Int)}, Tups H ps xss → Tups (upd H op o) ps xss
  | _, _, .nil => .nil
  | _, _, .cons q t => .cons (by rw [upd_ne (ne_of q e (by intro z; cases z))]; exact q) (Tups.updL e t)
end Tn
namespace Tn
open PySem PySem.Spec PyProof.Rows
theorem tupIter_atL {g g' : Heap} {it tp : Addr} {k : Nat} (p : g.IsListIter it tp k) (e : ∀ o, g.get? it = some o → g'.get? it = some o) : g'.IsListIter it tp k := let ⟨o, ho, r⟩ := p; ⟨o, e _ ho, r⟩
theorem tup_atL {g g' : Heap} {tp : Addr} {xs : Array Value} (p : g.IsList tp xs) (e : ∀ o, g.get? tp = some o → g'.get? tp = some o) : g'.IsList tp xs := let ⟨o, ho, r⟩ := p; ⟨o, e _ ho, r⟩
end Tn
namespace L2
open PySem PySem.Spec PyProof.Rows
def IteL (K : PySem.W.Frag) (a : Addr) : It :=
  ⟨fun i H => ∃ xs x, SqL K H a xs ∧ xs[i]? = some x, fun i H x H' => ∃ p y, H p = none ∧ x = .ref p ∧ (∀ xs, SqL K H a xs → xs[i]? = some y) ∧ H' = upd H p (.tup [.int i, y]), fun i H => ∃ xs, SqL K H a xs ∧ xs.length = i⟩
section
variable {X : Cx}
def iEnumL (K : PySem.W.Frag) (ta : TA) : TI := fun σ H R => ta σ H fun vs H1 => ∃ a, vs = [.ref a] ∧ (∃ xs, SqL K H1 a xs) ∧ R (IteL K a) H1
end
end L2
namespace L2
open PySem PySem.Spec PyProof.Rows
section
variable {X : Cx}
end
theorem comp_invF {J : It} {n : Nat} {tc : TT} {te : TE} {js : List Nat} {σ : St} {H1 : Hp} {Q : VK} {D : Addr} (P : Nat → List V → Hp → Prop) (h0 : P 0 [] (upd H1 D (.lst []))) (hD : ∀ i acc H', P i acc H' → H' D = some (.lst acc) ∧ acc.length ≤ i) (hn : n ≤ sizeLine)
    (hgo : ∀ i acc H', i < n → P i acc H' → J.go i H') (hst : ∀ acc H', P n acc H' → J.stop n H' ∧ Q (.ref D) H')
    (hstep : ∀ i acc H' y H2 (R0 : Hp → Prop) (R1 : VK), i < n → P i acc H' → J.yld i H' y H2 → (∀ H4, P (i + 1) acc H4 → R0 H4) → (∀ z H5, H5 D = some (.lst acc) → P (i + 1) (acc ++ [z]) (upd H5 D (.lst (acc ++ [z]))) → R1 z H5) →
      tc (some y :: js.map fun j => (σ[j]?).getD none) H2 fun b H4 => if b = true then te (some y :: js.map fun j => (σ[j]?).getD none) H4 R1 else R0 H4) :
    CompW J (gName 0) tc te js σ H1 Q D := by
  refine ⟨fun i m acc σ' H' => m = n - i ∧ i ≤ n ∧ P i acc H' ∧ ∃ v, σ' = v :: js.map fun j => (σ[j]?).getD none, ⟨n, by simp, Nat.zero_le _, h0, none, rfl⟩, ?_⟩
  rintro i m acc σ' H' ⟨rfl, hi, hP, v, rfl⟩
  refine ⟨(hD i acc H' hP).1, ?_⟩
  by_cases hlt : i < n
  · refine .inr ⟨hgo i acc H' hlt hP, by have := (hD i acc H' hP).2; omega, fun y H2 hy => ?_⟩
    show tc (some y :: js.map fun j => (σ[j]?).getD none) _ _
    exact hstep i acc H' y H2 _ _ hlt hP hy (fun H4 e => ⟨n - (i + 1), by omega, rfl, hlt, e, _, rfl⟩) fun z H5 e1 e2 => ⟨e1, n - (i + 1), by omega, rfl, hlt, e2, _, rfl⟩
  · have e : i = n := by omega
    subst e
    exact .inl (hst acc H' hP)
end L2
namespace Tn
open PySem L2
def NotW (K : PySem.W.Frag) (H : Hp) (x : V) : Prop := ∃ t, TyOf K H x t ∧ (PySem.W.kitOne K t (.type "int") = some false ∨ (PySem.W.kitOne K t (.type "int") = some true ∧ PySem.W.kitOne K t (.type "bool") = some true))
def Plain (K : PySem.W.Frag) (H : Hp) (x : V) : Prop := (∃ i, x = .int i) ∨ (NotW K H x ∧ ∀ i, x ≠ .int i)
theorem Same.ty {K : PySem.W.Frag} {H H' : Hp} (s : Same H H') {x : V} {t : Value} (h : TyOf K H x t) : TyOf K H' x t := by
  cases h with
  | non => exact .non
  | bl x => exact .bl x
  | int i => exact .int i
  | str x => exact .str x
  | flt x => exact .flt x
  | lst e => exact .lst (s _ _ e)
  | frz e => exact .frz (s _ _ e)
  | tup e => exact .tup (s _ _ e)
  | dK e => exact .dK (s _ _ e)
  | dT e => exact .dT (s _ _ e)
  | ins e c a b d f => exact .ins (s _ _ e) c a b d f
theorem NotW.mono {K : PySem.W.Frag} {H H' : Hp} (s : Same H H') {x : V} (h : NotW K H x) : NotW K H' x := let ⟨t, ty, k⟩ := h; ⟨t, Same.ty s ty, k⟩
theorem Plain.mono {K : PySem.W.Frag} {H H' : Hp} (s : Same H H') {x : V} (h : Plain K H x) : Plain K H' x := h.imp id fun z => ⟨z.1.mono s, z.2⟩
def spWhole (K : PySem.W.Frag) : Sp := fun vs H Q _ => ∃ x, vs = [x] ∧ (((∃ i, x = .int i) ∧ Q (.bl true) H) ∨ (NotW K H x ∧ Q (.bl false) H))
def diffG (b : Int) : List Int → List V → Bool
  | _, [] => true
  | met, .int i :: r => if 0 ≤ i ∧ i < b ∧ i ∉ met then diffG b (met ++ [i]) r else false
  | _, _ :: _ => false
def spDiff (K : PySem.W.Frag) : Sp := fun vs H Q _ => ∃ (l : Addr) (xs : List V) (b : Int), vs = [.ref l, .int b] ∧ SqL K H l xs ∧ xs.length ≤ 1000 ∧ (∀ x ∈ xs, Plain K H x) ∧ ∀ H', Same H H' → Q (.bl (diffG b [] xs)) H'
def rank (ws : List Int) (w : Int) : Nat := (ws.filter fun v => decide (v < w)).length
def leftF (ord ws : List Int) : List Int := (ord.filter fun w => decide (w ∈ ws)).map fun w => (rank ws w : Int)
def spLeft (K : PySem.W.Frag) (C : Addr) : Sp := fun vs H Q E => ∃ (o l : Addr) (ord : List Int) (xs : List V), vs = [.ref o, .ref l] ∧ SqT K H o (ord.map V.int) ∧ ord.length ≤ 1000 ∧ SqL K H l xs ∧ xs.length ≤ 1000 ∧ (∀ x ∈ xs, Plain K H x) ∧
  (∀ ws : List Int, xs = ws.map V.int → ws ≠ [] → ws.length < 64 → ws.Nodup → (∀ w ∈ ws, 0 ≤ w ∧ w < ord.length) → ∀ (t : Addr) (H' : Hp), H t = none → H' t = some (.tup ((leftF ord ws).map V.int)) → Same H H' → Q (.ref t) H') ∧
  (xs = [] ∨ (diffG ord.length [] xs = true → xs.length < 64)) ∧ (xs = [] ∨ diffG ord.length [] xs = false → ∀ H', Same H H' → E (.ref C) none H')
def spRefLeft (K : PySem.W.Frag) : Sp := fun vs H Q _ => ∃ (o l : Addr) (ord : List Int) (xs : List V), vs = [.ref o, .ref l] ∧ SqT K H o (ord.map V.int) ∧ ord.length ≤ 1000 ∧ SqL K H l xs ∧ xs.length ≤ 1000 ∧ (∀ x ∈ xs, Plain K H x) ∧
  (xs = [] ∨ diffG ord.length [] xs = false) ∧ ∀ H', Same H H' → Q (.bl true) H'
end Tn
namespace Tn
open PySem L2
def spSome (K : PySem.W.Frag) : Sp := fun vs H Q _ => ∃ (a o : Addr) (ns ord : List Int), vs = [.ref a, .ref o] ∧ SqL K H a (ns.map V.int) ∧ ns.length ≤ 63 ∧ SqT K H o (ord.map V.int) ∧ 1 ≤ ord.length ∧ ord.length ≤ 60 ∧
  ∀ (l : Addr) (ws : List Int) (H' : Hp), H l = none → H' l = some (.lst (ws.map V.int)) → Same H H' → ws.Nodup → (∀ w ∈ ws, 0 ≤ w ∧ w < ord.length) → 1 ≤ ws.length → ws.length ≤ ord.length → Q (.ref l) H'
def spLess (K : PySem.W.Frag) : Sp := fun vs H Q _ => ∃ (l : Addr) (ws : List Int) (z : Int), vs = [.ref l, .int z] ∧ SqL K H l (ws.map V.int) ∧ ws.length ≤ 1000 ∧ ∀ H', Same H H' → Q (.int (rank ws z : Nat)) H'
def BadV (m : Int) (ws : List Int) (v : V) : Prop := (∀ i, v ≠ .int i) ∨ ∃ i, v = .int i ∧ (i ∈ ws ∨ ¬ (0 ≤ i ∧ i < m))
def spSpoilt (K : PySem.W.Frag) : Sp := fun vs H Q _ => ∃ (l : Addr) (ws : List Int) (m c : Int), vs = [.ref l, .int m, .int c] ∧ SqL K H l (ws.map V.int) ∧ 1 ≤ ws.length ∧ ws.length ≤ 60 ∧ 0 ≤ m ∧
  ∀ (x : Addr) (xs : List V) (H' : Hp), H' x = some (.lst xs) → Same H H' → xs.length ≤ 100 → (∀ y ∈ xs, Plain K H' y) → diffG m [] xs = false → Q (.ref x) H'
end Tn
namespace Tn
open PySem L2
def Good (xs : List V) : Prop := 1 ≤ xs.length ∧ xs.length ≤ 60 ∧ diffG xs.length [] xs = true
def spMake (K : PySem.W.Frag) (C : Addr) : Sp := fun vs H Q E => ∃ (l : Addr) (xs : List V), vs = [.ref l] ∧ SqL K H l xs ∧ xs.length ≤ 1000 ∧ (∀ x ∈ xs, Plain K H x) ∧
  (Good xs → ∀ (t : Addr) (H' : Hp), H t = none → H' t = some (.tup xs) → Same H H' → Q (.ref t) H') ∧ (¬ Good xs → ∀ H', Same H H' → E (.ref C) none H')
def spRefMake (K : PySem.W.Frag) : Sp := fun vs H Q _ => ∃ (l : Addr) (xs : List V), vs = [.ref l] ∧ SqL K H l xs ∧ xs.length ≤ 1000 ∧ (∀ x ∈ xs, Plain K H x) ∧ ¬ Good xs ∧ ∀ H', Same H H' → Q (.bl true) H'
def spMade (K : PySem.W.Frag) : Sp := fun vs H Q _ => ∃ (l : Addr) (ws : List Int), vs = [.ref l] ∧ SqL K H l (ws.map V.int) ∧ IsOrd ws ∧ 1 ≤ ws.length ∧ ws.length ≤ 60 ∧ ∀ H', Same H H' → Q (.bl true) H'
def spSmall : Sp := fun vs H Q _ => ∃ c : Int, vs = [.int c] ∧ ∀ (l : Addr) (ws : List Int) (H' : Hp), H l = none → H' l = some (.lst (ws.map V.int)) → Same H H' → 1 ≤ ws.length → ws.length ≤ 4 → Q (.ref l) H'
def spSpoilt1 (K : PySem.W.Frag) : Sp := fun vs H Q _ => ∃ (l : Addr) (ws : List Int) (c : Int), vs = [.ref l, .int c] ∧ SqL K H l (ws.map V.int) ∧ IsOrd ws ∧ 1 ≤ ws.length ∧ ws.length ≤ 60 ∧
  ∀ (x : Addr) (xs : List V) (H' : Hp), H' x = some (.lst xs) → Same H H' → xs.length ≤ 100 → (∀ y ∈ xs, Plain K H' y) → ¬ Good xs → Q (.ref x) H'
theorem boot_ty_str : bootBuiltins "str" = some (.type "str") := by decide +kernel
theorem Plain.upd {K : PySem.W.Frag} {H : Hp} {fl : Addr} {o : HO} {v : V} (h : Plain K H v) (ne : v ≠ .ref fl) : Plain K (L2.upd H fl o) v := by
  rcases h with h | ⟨⟨t, ty, k⟩, h2⟩
  · exact .inl h
  · have go : ∀ {a : Addr} {x : HO}, (V.ref a) ≠ .ref fl → H a = some x → (L2.upd H fl o) a = some x := fun {a x} n e => by
      rw [upd_ne (fun z => n (by rw [z]))]
      exact e
    refine .inr ⟨⟨t, ?_, k⟩, h2⟩
    cases ty with
    | non => exact .non
    | bl x => exact .bl x
    | int i => exact .int i
    | str x => exact .str x
    | flt x => exact .flt x
    | lst e => exact .lst (go ne e)
    | frz e => exact .frz (go ne e)
    | tup e => exact .tup (go ne e)
    | dK e => exact .dK (go ne e)
    | dT e => exact .dT (go ne e)
    | ins e c a b d f => exact .ins (go ne e) c a b d f
end Tn
namespace L2
open PySem PySem.Spec PyProof.Rows
theorem pick_rev (its : List Value) : slicePick its.toArray none none (some (-1)) = its.reverse.toArray := by
  have hb : sliceBounds none none (some (-1)) its.toArray.size = ((its.length : Int) - 1, -1, -1) := by simp [sliceBounds]
  unfold slicePick
  rw [hb]
  congr 1
  have hr : sliceRange ((its.length : Int) - 1) (-1) (-1) = (List.range its.length).map fun k => its.length - 1 - k := by
    unfold sliceRange
    have hc : (if (-1 : Int) > 0 then (if (its.length : Int) - 1 < -1 then (-1 - ((its.length : Int) - 1) + -1 - 1) / -1 else 0) else if (its.length : Int) - 1 > -1 then ((its.length : Int) - 1 - -1 - -1 - 1) / - -1 else 0).toNat = its.length := by
      rw [if_neg (by decide)]
      by_cases h : its.length = 0
      · rw [h]; rfl
      · rw [if_pos (by omega)]
        have : ((its.length : Int) - 1 - -1 - -1 - 1) / - -1 = (its.length : Int) := by
          rw [show ((its.length : Int) - 1 - -1 - -1 - 1) = (its.length : Int) by omega]
          exact Int.ediv_one _
        rw [this]; rfl
    simp only [] at hc ⊢
    rw [hc]
    apply List.map_congr_left
    intro k hk
    have := List.mem_range.mp hk
    omega
  show List.filterMap (fun x => its.toArray[x]?) (sliceRange ((its.length : Int) - 1) (-1) (-1)) = its.reverse
  rw [hr, List.filterMap_map]
  apply List.ext_getElem?
  intro i
  have hall : List.filterMap ((fun x => its.toArray[x]?) ∘ fun k => its.length - 1 - k) (List.range its.length) = (List.range its.length).map fun k => (its[its.length - 1 - k]?).getD .none := by
    have gen : ∀ l : List Nat, (∀ k ∈ l, k < its.length) → List.filterMap ((fun x => its.toArray[x]?) ∘ fun k => its.length - 1 - k) l = l.map fun k => (its[its.length - 1 - k]?).getD .none := by
      intro l
      induction l with
      | nil => intro _; rfl
      | cons k l ih =>
        intro h
        have hk := h k List.mem_cons_self
        rw [List.map_cons, ← ih (fun j hj => h j (List.mem_cons_of_mem _ hj))]
        rw [List.filterMap_cons_some (b := its[its.length - 1 - k]'(by omega))]
        · rw [List.getElem?_eq_getElem (by omega)]
          rfl
        · simp only [Function.comp, List.getElem?_toArray]
          exact List.getElem?_eq_getElem (by omega)
    exact gen _ fun k hk => List.mem_range.mp hk
  rw [hall]
  by_cases hi : i < its.length
  · rw [List.getElem?_map, List.getElem?_range hi, List.getElem?_reverse hi]
    simp only [Option.map_some]
    rw [List.getElem?_eq_getElem (by omega)]
    rfl
  · rw [List.getElem?_eq_none (by simp; omega), List.getElem?_eq_none (by simp; omega)]
section
variable {X : Cx} {e : Expr} {te : TE} {st : Expr} {ts : TE} {pos p2 : Pos}
theorem vals_back {xs : List V} {us : List Value} (h : Vals xs us) : Vals xs.reverse us.reverse := by
  induction h with
  | nil => exact .nil
  | cons r _ ih =>
    rw [List.reverse_cons, List.reverse_cons]
    have go : ∀ {as : List V} {bs : List Value}, Vals as bs → ∀ {c : V} {d : Value}, RelV c d → Vals (as ++ [c]) (bs ++ [d]) := by
      intro as bs hab
      induction hab with
      | nil => intro c d hcd; exact .cons hcd .nil
      | cons r1 _ ih1 => intro c d hcd; exact .cons r1 (ih1 hcd)
    exact go ih r
def tRevL (K : PySem.W.Frag) (te ts : TE) : TE := fun σ H Q => te σ H fun x H1 => ts σ H1 fun k H2 => k = .int (-1) ∧ ∃ a xs, x = .ref a ∧ SqL K H2 a xs ∧ ∀ p, H2 p = none → Q (.ref p) (upd H2 p (.lst xs.reverse))
theorem pe_revL (he : PE X e te) (hst : PE X st ts) : PE X (.Subscript e (.Slice none none (some st) p2) pos) (tRevL X.K te ts) := by
  intro pins s σ H Q I h
  refine Subscript_ (thn (he pins s σ H _ I h) fun v s1 ⟨x, H1, I1, r1, q1⟩ => ?_)
  refine wpAny_Slice ?_
  rw [evalPart_none]
  refine wpAny_pure ?_
  refine wpAny_pure ?_
  rw [evalPart_some]
  refine thn (hst pins s1 σ H1 _ I1 q1) fun vk s2 ⟨k, H2, I2, r2, q2⟩ => ?_
  obtain ⟨rfl, a, xs, rfl, hx, q⟩ := q2
  obtain ⟨t, rfl⟩ := r2
  cases r1
  have I4 : Inv X pins σ H2 { s2 with heap := s2.heap.push { cls := .type "slice", data := .fields #[.none, .none, .int (-1) t] } } := I2.kept (t' := s2.toks) fun b ob q => Heap.get?_push_of_some _ q
  obtain ⟨its, r, ht, hz⟩ := I4.list hx
  have hlen := r.length
  have hg : wpAny (model X.prog X.w) X.A (getItem (.ref a) (.ref s2.heap.objs.size)) (EP X pins σ Q) X.xe { s2 with heap := s2.heap.push { cls := .type "slice", data := .fields #[.none, .none, .int (-1) t] } } := by
    refine wpAny_getItem_list_slice ht.isList (Heap.IsSliceOf.new ..) .none .none (.int (-1) t) (by decide) ?_ (by rw [List.size_toArray] <;> omega)
    rw [pick_rev]
    refine ⟨.ref _, _, I4.laid (t' := s2.toks) (o := .lst xs.reverse) (fun b ob q => Heap.get?_push_of_some _ q) (Nat.le_refl _) ?_, rfl, q _ (I4.hok.fresh (Nat.le_refl _))⟩
    exact ⟨by rw [List.length_reverse]; exact hz, _, 0, vals_back r, Heap.get?_push_size _ rfl⟩
  show wpAny (model X.prog X.w) X.A (subscriptTail e (.Slice none none (some st) p2) (.ref a) (.ref s2.heap.objs.size)) (EP X pins σ Q) X.xe { s2 with heap := s2.heap.push { cls := .type "slice", data := .fields #[.none, .none, .int (-1) t] } }
  exact tail_any (ops := [.ref a, .ref s2.heap.objs.size]) ht.isList.typeIs slot_list_getitem.lookup hg (by with_unfolding_all rfl)
end
end L2
namespace Tn
open PySem L2
def blkWords (b : Int) (n : Nat) : List Int := (List.range n).map fun (i : Nat) => b + i
def backs (ord : List Int) (xss : List (List Int)) : List (List Int) := ord.map fun w => backF (xss.getD w.toNat [])
end Tn
namespace L2
open PySem PySem.Spec PyProof.Rows
theorem assign_Tuple_list {prog : Program} {w : World} {A : Around} {E : Value → Shared → Prop} {s : Shared} {env : Env} {elts : List PySem.Expr} {x1 : Nat} {pos : Pos} {t : Addr} {items : Array Value} {Q : Unit → Shared → Prop}
    (hh : A.handled = none) (ht : s.heap.IsList t items) (hl : (assignEach elts env).length = items.size) (hf : List.findIdx? (fun x => x.fst) (assignEach elts env) = none)
    (hq : ∀ (h' : Heap), Heap.ExtBut s.heap.objs.size s.heap h' → wpAny (model prog w) A (assignInOrder (List.map (fun x => x.snd) (assignEach elts env)) items.toList) Q E { s with heap := h' }) :
    wpAny (model prog w) A (assign (Expr.Tuple elts x1 pos) env (Value.ref t)) Q E s := by
  rw [assign_Tuple]
  refine wpAny_bind (wpAny_standAt ?_)
  unfold unpack
  rw [hf, hl]
  refine wpAny_bind ?_
  refine wpAny_holding ?_
  exact PySem.W.kun_itemsOf hh ht hq
section
variable {X : Cx} {pos : Pos}
def gTupL (K : PySem.W.Frag) (n : Nat) (t : TGs) : TG := fun v σ H Q => ∃ a xs, v = .ref a ∧ SqL K H a xs ∧ xs.length = n ∧ t xs σ H Q
theorem pg_tupL {es : List Expr} {k : Nat} {t : TGs} {n : Nat} (hc : X.calm = true) (h : PGs X es t)
    (hn : (assignEach es X.env).length = n := by rfl) (hst : (assignEach es X.env).findIdx? (·.1) = none := by rfl) : PG X (.Tuple es k pos) (gTupL X.K n t) := by
  intro pins s σ H v u Q I r hw
  obtain ⟨a, xs, e1, hq, hl, hw⟩ := hw
  subst e1
  cases r
  obtain ⟨its, rv, ht, hz⟩ := I.list hq
  refine assign_Tuple_list (I.ok.hd hc) ht.isList (by simp [hn, ← hl, rv.length]) hst fun h' hx => ?_
  have I1 : Inv X pins σ H { s with heap := h' } := I.kept (t' := s.toks) fun b o e => hx b o (Nat.ne_of_lt (Heap.lt_size e)) e
  exact h pins _ σ H xs _ Q I1 (by simpa using rv) hw
end
end L2
namespace Tn
open PySem L2
inductive Nest where
  | word
  | knot (k : Bool) (ps : List Nest)
  | bad
def kS (k : Bool) : Str := if k then "+" else "-"
def aS : Option Bool → Str
  | none => ""
  | some k => kS k
def Typed (K : PySem.W.Frag) (H : Hp) (y : V) : Prop := ∃ t b, TyOf K H y t ∧ PySem.W.kitOne K t (.type "tuple") = some b
inductive NoKnot (K : PySem.W.Frag) (H : Hp) : V → Prop where
  | ty {v : V} {t : Value} : TyOf K H v t → PySem.W.kitOne K t (.type "tuple") = some false → NoKnot K H v
  | len {a : Addr} {xs : List V} : H a = some (.tup xs) → xs.length ≠ 2 → NoKnot K H (.ref a)
  | notStr {a : Addr} {x y : V} {t : Value} : H a = some (.tup [x, y]) → TyOf K H x t → PySem.W.kitOne K t (.type "str") = some false → Typed K H y → NoKnot K H (.ref a)
  | kind {a : Addr} {z : Str} {y : V} : H a = some (.tup [.str z, y]) → z ≠ "+" → z ≠ "-" → Typed K H y → NoKnot K H (.ref a)
  | notTup {a : Addr} {k : Bool} {y : V} {t : Value} : H a = some (.tup [.str (kS k), y]) → TyOf K H y t → PySem.W.kitOne K t (.type "tuple") = some false → NoKnot K H (.ref a)
  | few {a b : Addr} {k : Bool} {xs : List V} : H a = some (.tup [.str (kS k), .ref b]) → H b = some (.tup xs) → xs.length < 2 → NoKnot K H (.ref a)
mutual
def NestAt (K : PySem.W.Frag) (H : Hp) : Nest → V → Prop
  | .word, v => v = .non
  | .knot k ps, v => ∃ a b vs, v = .ref a ∧ H a = some (.tup [.str (kS k), .ref b]) ∧ H b = some (.tup vs) ∧ 2 ≤ vs.length ∧ vs.length ≤ 1000 ∧ NestsAt K H ps vs
  | .bad, v => v ≠ .non ∧ NoKnot K H v
def NestsAt (K : PySem.W.Frag) (H : Hp) : List Nest → List V → Prop
  | [], vs => vs = []
  | n :: r, vs => ∃ v vr, vs = v :: vr ∧ NestAt K H n v ∧ NestsAt K H r vr
end
mutual
def words : Nest → Nat
  | .word => 1
  | .knot _ ps => wordsL ps
  | .bad => 1
def wordsL : List Nest → Nat
  | [] => 0
  | n :: r => words n + wordsL r
end
mutual
def valid : Option Bool → Nest → Bool
  | _, .word => true
  | o, .knot k ps => (!decide (o = some k)) && validL k ps
  | _, .bad => false
def validL : Bool → List Nest → Bool
  | _, [] => true
  | k, n :: r => valid (some k) n && validL k r
end
mutual
def depthN : Nest → Nat
  | .word => 0
  | .knot _ ps => 1 + depthL ps
  | .bad => 0
def depthL : List Nest → Nat
  | [] => 0
  | n :: r => Nat.max (depthN n) (depthL r)
end
mutual
def sizeN : Nest → Nat
  | .word => 1
  | .knot _ ps => 1 + sizeL ps
  | .bad => 1
def sizeL : List Nest → Nat
  | [] => 0
  | n :: r => sizeN n + sizeL r
end
theorem NoKnot.mono {K : PySem.W.Frag} {H H' : Hp} (s : Same H H') {v : V} (h : NoKnot K H v) : NoKnot K H' v := by
  cases h with
  | ty t k => exact .ty (Same.ty s t) k
  | len e k => exact .len (s _ _ e) k
  | notStr e t k y => exact .notStr (s _ _ e) (Same.ty s t) k (let ⟨t', b, t2, kk⟩ := y; ⟨t', b, Same.ty s t2, kk⟩)
  | kind e a b y => exact .kind (s _ _ e) a b (let ⟨t', b', t2, kk⟩ := y; ⟨t', b', Same.ty s t2, kk⟩)
  | notTup e t k => exact .notTup (s _ _ e) (Same.ty s t) k
  | few e1 e2 k => exact .few (s _ _ e1) (s _ _ e2) k
mutual
theorem NestAt.mono {K : PySem.W.Frag} {H H' : Hp} (s : Same H H') : ∀ {n : Nest} {v : V}, NestAt K H n v → NestAt K H' n v
  | .word, _, h => h
  | .knot _ _, _, ⟨a, b, vs, e, h1, h2, h3, h4, h5⟩ => ⟨a, b, vs, e, s _ _ h1, s _ _ h2, h3, h4, NestsAt.mono s h5⟩
  | .bad, _, ⟨h1, h2⟩ => ⟨h1, h2.mono s⟩
theorem NestsAt.mono {K : PySem.W.Frag} {H H' : Hp} (s : Same H H') : ∀ {ns : List Nest} {vs : List V}, NestsAt K H ns vs → NestsAt K H' ns vs
  | [], _, h => h
  | _ :: _, _, ⟨v, vr, e, h1, h2⟩ => ⟨v, vr, e, NestAt.mono s h1, NestsAt.mono s h2⟩
end
theorem NestsAt.len {K : PySem.W.Frag} {H : Hp} : ∀ {ns : List Nest} {vs : List V}, NestsAt K H ns vs → ns.length = vs.length
  | [], _, h => by have h : _ = [] := h; subst h; rfl
  | _ :: _, _, ⟨v, vr, e, _, h2⟩ => by subst e; simp [NestsAt.len h2]
theorem NestsAt.app {K : PySem.W.Frag} {H : Hp} : ∀ {ns ms : List Nest} {vs us : List V}, NestsAt K H ns vs → NestsAt K H ms us → NestsAt K H (ns ++ ms) (vs ++ us)
  | [], _, _, _, h, h' => by have h : _ = [] := h; subst h; exact h'
  | _ :: _, _, _, _, ⟨v, vr, e, h1, h2⟩, h' => by subst e; exact ⟨v, _, rfl, h1, NestsAt.app h2 h'⟩
theorem NestsAt.one {K : PySem.W.Frag} {H : Hp} {n : Nest} {v : V} (h : NestAt K H n v) : NestsAt K H [n] [v] := ⟨v, [], rfl, h, rfl⟩
theorem NestsAt.rep {K : PySem.W.Frag} {H : Hp} : ∀ k : Nat, NestsAt K H (List.replicate k .word) (List.replicate k .non)
  | 0 => rfl
  | k + 1 => ⟨.non, _, rfl, rfl, NestsAt.rep k⟩
theorem NestsAt.get {K : PySem.W.Frag} {H : Hp} : ∀ {ns : List Nest} {vs : List V} {i : Nat} {v : V}, NestsAt K H ns vs → vs[i]? = some v → ∃ n, ns[i]? = some n ∧ NestAt K H n v
  | [], _, _, _, h, e => by have h : _ = [] := h; subst h; cases e
  | n :: _, _, 0, _, ⟨v, vr, e0, h1, _⟩, e => by subst e0; cases e; exact ⟨n, rfl, h1⟩
  | _ :: _, _, i + 1, _, ⟨v, vr, e0, _, h2⟩, e => by subst e0; exact NestsAt.get (i := i) h2 (by simpa using e)
theorem wordsL_app : ∀ (a b : List Nest), wordsL (a ++ b) = wordsL a + wordsL b
  | [], b => by simp [wordsL]
  | n :: a, b => by simp only [List.cons_append, wordsL, wordsL_app a b]; omega
theorem validL_app (k : Bool) : ∀ (a b : List Nest), validL k (a ++ b) = (validL k a && validL k b)
  | [], b => by simp [validL]
  | n :: a, b => by simp only [List.cons_append, validL, validL_app k a b, Bool.and_assoc]
theorem wordsL_rep : ∀ k : Nat, wordsL (List.replicate k .word) = k
  | 0 => rfl
  | k + 1 => by rw [List.replicate_succ]; simp only [wordsL, words, wordsL_rep k]; omega
theorem validL_rep (b : Bool) : ∀ k : Nat, validL b (List.replicate k .word) = true
  | 0 => rfl
  | k + 1 => by rw [List.replicate_succ]; simp only [validL, valid, validL_rep b k, Bool.and_true]
mutual
theorem words_pos {K : PySem.W.Frag} {H : Hp} : ∀ {n : Nest} {v : V}, NestAt K H n v → 1 ≤ words n
  | .word, _, _ => by simp [words]
  | .knot _ ps, _, ⟨_, _, vs, _, _, _, h3, _, h5⟩ => by
    have h6 := wordsL_pos h5
    have h7 := NestsAt.len h5
    simp only [words]
    omega
  | .bad, _, _ => by simp [words]
theorem wordsL_pos {K : PySem.W.Frag} {H : Hp} : ∀ {ns : List Nest} {vs : List V}, NestsAt K H ns vs → ns.length ≤ wordsL ns
  | [], _, _ => by simp [wordsL]
  | _ :: _, _, ⟨_, _, _, h1, h2⟩ => by
    have h3 := words_pos h1
    have h4 := wordsL_pos h2
    simp only [wordsL, List.length_cons]
    omega
end
mutual
theorem size_pos : ∀ (n : Nest), 1 ≤ sizeN n
  | .word => by simp [sizeN]
  | .knot _ _ => by simp [sizeN]
  | .bad => by simp [sizeN]
end
theorem NoKnot.updL {K : PySem.W.Frag} {H : Hp} {p : Addr} {us vs : List V} (e : H p = some (.lst us)) {v : V} (h : NoKnot K H v) : NoKnot K (upd H p (.lst vs)) v := by
  have tup : ∀ {a : Addr} {xs : List V}, H a = some (.tup xs) → (upd H p (.lst vs)) a = some (.tup xs) := fun {a xs} h => by
    rw [upd_ne (ne_of h e (by intro z; cases z))]
    exact h
  have go : ∀ {x : V} {t : Value}, TyOf K H x t → TyOf K (upd H p (.lst vs)) x t := fun {x t} h => by
    have keep : ∀ {a : Addr} {o : HO}, (∀ ys, o ≠ .lst ys) → H a = some o → (upd H p (.lst vs)) a = some o := fun {a o} n h => by
      rw [upd_ne (ne_of h e (n _))]
      exact h
    cases h with
    | non => exact .non
    | bl x => exact .bl x
    | int i => exact .int i
    | str x => exact .str x
    | flt x => exact .flt x
    | @lst a ys h =>
      by_cases hap : a = p
      · subst hap
        exact .lst upd_same
      · exact .lst (by rw [upd_ne hap]; exact h)
    | frz h => exact .frz (keep (fun _ z => nomatch z) h)
    | tup h => exact .tup (keep (fun _ z => nomatch z) h)
    | dK h => exact .dK (keep (fun _ z => nomatch z) h)
    | dT h => exact .dT (keep (fun _ z => nomatch z) h)
    | ins h c a b d f => exact .ins (keep (fun _ z => nomatch z) h) c a b d f
  cases h with
  | ty t k => exact .ty (go t) k
  | len h k => exact .len (tup h) k
  | notStr h t k y => exact .notStr (tup h) (go t) k (let ⟨t', b, t2, kk⟩ := y; ⟨t', b, go t2, kk⟩)
  | kind h a b y => exact .kind (tup h) a b (let ⟨t', b', t2, kk⟩ := y; ⟨t', b', go t2, kk⟩)
  | notTup h t k => exact .notTup (tup h) (go t) k
  | few h1 h2 k => exact .few (tup h1) (tup h2) k
mutual
theorem NestAt.updL {K : PySem.W.Frag} {H : Hp} {p : Addr} {us vs : List V} (e : H p = some (.lst us)) : ∀ {n : Nest} {v : V}, NestAt K H n v → NestAt K (upd H p (.lst vs)) n v
  | .word, _, h => h
  | .knot _ _, _, ⟨a, b, ws, e0, h1, h2, h3, h4, h5⟩ => ⟨a, b, ws, e0, by rw [upd_ne (ne_of h1 e (by intro z; cases z))]; exact h1, by rw [upd_ne (ne_of h2 e (by intro z; cases z))]; exact h2, h3, h4, NestsAt.updL e h5⟩
  | .bad, _, ⟨h1, h2⟩ => ⟨h1, h2.updL e⟩
theorem NestsAt.updL {K : PySem.W.Frag} {H : Hp} {p : Addr} {us vs : List V} (e : H p = some (.lst us)) : ∀ {ns : List Nest} {ws : List V}, NestsAt K H ns ws → NestsAt K (upd H p (.lst vs)) ns ws
  | [], _, h => h
  | _ :: _, _, ⟨v, vr, e0, h1, h2⟩ => ⟨v, vr, e0, NestAt.updL e h1, NestsAt.updL e h2⟩
end
def okN (n : Nest) : Bool := valid none n && decide (words n ≤ 60)
def spKnot (K : PySem.W.Frag) : Sp := fun vs H Q _ => ∃ v, vs = [v] ∧ ((NoKnot K H v ∧ ∀ H', Same H H' → Q (.bl false) H') ∨
  ∃ a b k us, v = .ref a ∧ H a = some (.tup [.str (kS k), .ref b]) ∧ H b = some (.tup us) ∧ 2 ≤ us.length ∧ us.length ≤ 1000 ∧ ∀ H', Same H H' → Q (.bl true) H')
def spIsNest (K : PySem.W.Frag) : Sp := fun vs H Q _ => ∃ v n, vs = [v] ∧ NestAt K H n v ∧ ∀ H', Same H H' → Q (.bl (okN n)) H'
theorem kS_in (k : Bool) : inV (.str (kS k)) [.str "+", .str "-"] = true := by cases k <;> decide +kernel
theorem kS_notIn {z : Str} (h1 : z ≠ "+") (h2 : z ≠ "-") : inV (.str z) [.str "+", .str "-"] = false := by
  unfold inV
  simp only [List.any_cons, List.any_nil, Bool.or_false, eqV, Bool.or_eq_false_iff, beq_eq_false_iff_ne, ne_eq]
  first
  | exact ⟨h1, h2⟩
  | exact ⟨fun e => h1 e.symm, fun e => h2 e.symm⟩
theorem kS_ne (k : Bool) (o : Option Bool) : decide (V.str (kS k) = V.str (aS o)) = decide (o = some k) := by
  cases o with
  | none => cases k <;> decide +kernel
  | some j => cases k <;> cases j <;> decide +kernel
def WaitAt (K : PySem.W.Frag) (H : Hp) : List (Nest × Option Bool) → List Addr → Prop
  | [], ts => ts = []
  | p :: r, ts => ∃ t tr v, ts = t :: tr ∧ H t = some (.tup [v, .str (aS p.2)]) ∧ NestAt K H p.1 v ∧ WaitAt K H r tr
theorem WaitAt.mono {K : PySem.W.Frag} {H H' : Hp} (s : Same H H') : ∀ {st : List (Nest × Option Bool)} {ts : List Addr}, WaitAt K H st ts → WaitAt K H' st ts
  | [], _, h => h
  | _ :: _, _, ⟨t, tr, v, e, h1, h2, h3⟩ => ⟨t, tr, v, e, s _ _ h1, h2.mono s, WaitAt.mono s h3⟩
theorem WaitAt.updL {K : PySem.W.Frag} {H : Hp} {p : Addr} {us vs : List V} (e : H p = some (.lst us)) : ∀ {st : List (Nest × Option Bool)} {ts : List Addr}, WaitAt K H st ts → WaitAt K (upd H p (.lst vs)) st ts
  | [], _, h => h
  | _ :: _, _, ⟨t, tr, v, e0, h1, h2, h3⟩ => ⟨t, tr, v, e0, by rw [upd_ne (ne_of h1 e (by intro z; cases z))]; exact h1, h2.updL e, WaitAt.updL e h3⟩
theorem WaitAt.len {K : PySem.W.Frag} {H : Hp} : ∀ {st : List (Nest × Option Bool)} {ts : List Addr}, WaitAt K H st ts → st.length = ts.length
  | [], _, h => by have h : _ = [] := h; subst h; rfl
  | _ :: _, _, ⟨_, _, _, e, _, _, h3⟩ => by subst e; simp [WaitAt.len h3]
theorem WaitAt.app {K : PySem.W.Frag} {H : Hp} : ∀ {a b : List (Nest × Option Bool)} {ts us : List Addr}, WaitAt K H a ts → WaitAt K H b us → WaitAt K H (a ++ b) (ts ++ us)
  | [], _, _, _, h, h' => by have h : _ = [] := h; subst h; exact h'
  | _ :: _, _, _, _, ⟨t, tr, v, e, h1, h2, h3⟩, h' => by subst e; exact ⟨t, _, v, rfl, h1, h2, WaitAt.app h3 h'⟩
theorem WaitAt.rev {K : PySem.W.Frag} {H : Hp} : ∀ {a : List (Nest × Option Bool)} {ts : List Addr}, WaitAt K H a ts → WaitAt K H a.reverse ts.reverse
  | [], _, h => by have h : _ = [] := h; subst h; rfl
  | _ :: _, _, ⟨t, tr, v, e, h1, h2, h3⟩ => by
    subst e
    rw [List.reverse_cons, List.reverse_cons]
    exact WaitAt.app (WaitAt.rev h3) ⟨t, [], v, rfl, h1, h2, rfl⟩
def waitW (st : List (Nest × Option Bool)) : Nat := (st.map fun p => words p.1).sum
def waitS (st : List (Nest × Option Bool)) : Nat := (st.map fun p => sizeN p.1).sum
def waitOk (st : List (Nest × Option Bool)) : Bool := st.all fun p => valid p.2 p.1
theorem WaitAt.words {K : PySem.W.Frag} {H : Hp} : ∀ {st : List (Nest × Option Bool)} {ts : List Addr}, WaitAt K H st ts → st.length ≤ waitW st
  | [], _, _ => by simp [waitW]
  | p :: r, _, ⟨_, _, _, _, _, h2, h3⟩ => by
    have a1 := words_pos h2
    have a2 := WaitAt.words h3
    unfold waitW at *
    simp only [List.map_cons, List.sum_cons, List.length_cons]
    omega
def within (k : Bool) (ps : List Nest) : List (Nest × Option Bool) := ps.map fun n => (n, some k)
theorem within_w (k : Bool) : ∀ ps, waitW (within k ps) = wordsL ps
  | [] => rfl
  | n :: r => by
    have := within_w k r
    unfold waitW within at *
    simp only [List.map_cons, List.sum_cons, wordsL]
    omega
theorem within_s (k : Bool) : ∀ ps, waitS (within k ps) = sizeL ps
  | [] => rfl
  | n :: r => by
    have := within_s k r
    unfold waitS within at *
    simp only [List.map_cons, List.sum_cons, sizeL]
    omega
theorem within_ok (k : Bool) : ∀ ps, waitOk (within k ps) = validL k ps
  | [] => rfl
  | n :: r => by
    have := within_ok k r
    unfold waitOk within at *
    simp only [List.map_cons, List.all_cons, validL, this]
theorem waitW_app (a b : List (Nest × Option Bool)) : waitW (a ++ b) = waitW a + waitW b := by simp [waitW]
theorem waitS_app (a b : List (Nest × Option Bool)) : waitS (a ++ b) = waitS a + waitS b := by simp [waitS]
theorem waitOk_app (a b : List (Nest × Option Bool)) : waitOk (a ++ b) = (waitOk a && waitOk b) := by simp [waitOk]
theorem waitW_rev (a : List (Nest × Option Bool)) : waitW a.reverse = waitW a := by simp [waitW]
theorem waitS_rev (a : List (Nest × Option Bool)) : waitS a.reverse = waitS a := by simp [waitS]
theorem waitOk_rev (a : List (Nest × Option Bool)) : waitOk a.reverse = waitOk a := by simp [waitOk]
end Tn
namespace Tn
open PySem L2
structure Ent where
  e : Addr
  p : Addr
  k : Bool
  ns : List Nest
  vs : List V
def EntAt (K : PySem.W.Frag) (H : Hp) (x : Ent) : Prop := H x.e = some (.lst [.str (kS x.k), .ref x.p]) ∧ H x.p = some (.lst x.vs) ∧ NestsAt K H x.ns x.vs
def addrs : List Ent → List Addr
  | [] => []
  | x :: r => x.e :: x.p :: addrs r
def refsE (st : List Ent) : List V := st.reverse.map fun x => V.ref x.e
theorem refsE_cons (x : Ent) (r : List Ent) : refsE (x :: r) = refsE r ++ [V.ref x.e] := by simp [refsE]
structure PileAt (K : PySem.W.Frag) (B H : Hp) (pl : Addr) (st : List Ent) : Prop where
  here : H pl = some (.lst (refsE st))
  ents : ∀ x ∈ st, EntAt K H x
  nd : (pl :: addrs st).Nodup
  fresh : ∀ a ∈ pl :: addrs st, B a = none
  same : Same B H
theorem EntAt.mono {K : PySem.W.Frag} {H H' : Hp} (s : Same H H') {x : Ent} (h : EntAt K H x) : EntAt K H' x := ⟨s _ _ h.1, s _ _ h.2.1, NestsAt.mono s h.2.2⟩
theorem addrs_mem {x : Ent} : ∀ {st : List Ent}, x ∈ st → x.e ∈ addrs st ∧ x.p ∈ addrs st
  | y :: r, h => by
    rcases List.mem_cons.mp h with rfl | h
    · simp [addrs]
    · have := addrs_mem h
      simp [addrs, this]
theorem addrs_there {K : PySem.W.Frag} {H : Hp} {a : Addr} : ∀ {st : List Ent}, (∀ x ∈ st, EntAt K H x) → a ∈ addrs st → ∃ o, H a = some o
  | x :: r, h, ha => by
    have hx := h x List.mem_cons_self
    simp only [addrs, List.mem_cons] at ha
    rcases ha with rfl | rfl | ha
    · exact ⟨_, hx.1⟩
    · exact ⟨_, hx.2.1⟩
    · exact addrs_there (fun y hy => h y (List.mem_cons_of_mem _ hy)) ha
theorem PileAt.mono {K : PySem.W.Frag} {B H H' : Hp} {pl : Addr} {st : List Ent} (h : PileAt K B H pl st) (s : Same H H') : PileAt K B H' pl st :=
  ⟨s _ _ h.here, fun x hx => (h.ents x hx).mono s, h.nd, h.fresh, h.same.trans s⟩
theorem EntAt.updL {K : PySem.W.Frag} {H : Hp} {q : Addr} {us vs : List V} {x : Ent} (h : EntAt K H x) (e : H q = some (.lst us)) (h1 : x.e ≠ q) (h2 : x.p ≠ q) : EntAt K (upd H q (.lst vs)) x :=
  ⟨by rw [upd_ne h1]; exact h.1, by rw [upd_ne h2]; exact h.2.1, NestsAt.updL e h.2.2⟩
theorem PileAt.pop {K : PySem.W.Frag} {B H : Hp} {pl : Addr} {x : Ent} {r : List Ent} (h : PileAt K B H pl (x :: r)) :
    PileAt K B (upd H pl (.lst (refsE r))) pl r ∧ EntAt K (upd H pl (.lst (refsE r))) x := by
  have hx := h.ents x List.mem_cons_self
  have nd := h.nd
  simp only [addrs, List.nodup_cons, List.mem_cons, not_or] at nd
  obtain ⟨⟨n1, n2, n3⟩, ⟨n4, n5⟩, n6, n7⟩ := nd
  refine ⟨⟨upd_same, fun y hy => ?_, List.nodup_cons.mpr ⟨n3, n7⟩, fun a ha => h.fresh a ?_, fun b o e => ?_⟩, hx.updL h.here (fun z => n1 z.symm) (fun z => n2 z.symm)⟩
  · obtain ⟨a1, a2⟩ := addrs_mem hy
    exact (h.ents y (List.mem_cons_of_mem _ hy)).updL h.here (fun z => n3 (z ▸ a1)) (fun z => n3 (z ▸ a2))
  · rcases List.mem_cons.mp ha with rfl | ha
    · exact List.mem_cons_self
    · simp [addrs, ha]
  · rw [upd_ne (ne_of_none e (h.fresh pl List.mem_cons_self))]
    exact h.same b o e
theorem PileAt.push {K : PySem.W.Frag} {B H : Hp} {pl : Addr} {st : List Ent} (h : PileAt K B H pl st) {e p : Addr} {k : Bool} (hp : H p = none) (he : (upd H p (.lst [])) e = none) :
    PileAt K B (upd (upd (upd H p (.lst [])) e (.lst [.str (kS k), .ref p])) pl (.lst (refsE st ++ [.ref e]))) pl (⟨e, p, k, [], []⟩ :: st) := by
  have sp : Same H (upd H p (.lst [])) := same_upd hp
  have se : Same (upd H p (.lst [])) (upd (upd H p (.lst [])) e (.lst [.str (kS k), .ref p])) := same_upd he
  have he0 : H e = none := sp.free he
  have nep : e ≠ p := fun z => by rw [z, upd_same] at he; cases he
  have npl1 : pl ≠ p := ne_of_none h.here hp
  have npl2 : pl ≠ e := ne_of_none h.here he0
  have nin : ∀ {a : Addr}, H a = none → a ∉ addrs st := fun ha z => by
    obtain ⟨o, eo⟩ := addrs_there h.ents z
    rw [ha] at eo
    cases eo
  have h2 := h.mono (sp.trans se)
  have nd := List.nodup_cons.mp h.nd
  refine ⟨by rw [upd_same, refsE_cons], fun y hy => ?_, ?_, ?_, fun b o eb => ?_⟩
  · rcases List.mem_cons.mp hy with rfl | hy
    · refine ⟨by show upd _ _ _ e = _; rw [upd_ne (fun z => npl2 z.symm)]; exact upd_same, ?_, rfl⟩
      show upd _ _ _ p = _
      rw [upd_ne (fun z => npl1 z.symm)]
      exact se _ _ upd_same
    · obtain ⟨a1, a2⟩ := addrs_mem hy
      exact (h2.ents y hy).updL h2.here (fun z => nd.1 (z ▸ a1)) (fun z => nd.1 (z ▸ a2))
  · simp only [addrs, List.nodup_cons, List.mem_cons, not_or]
    exact ⟨⟨npl2, npl1, nd.1⟩, ⟨nep, nin he0⟩, nin hp, nd.2⟩
  · intro a ha
    simp only [addrs, List.mem_cons] at ha
    rcases ha with rfl | rfl | rfl | ha
    · exact h.fresh _ List.mem_cons_self
    · exact h.same.free he0
    · exact h.same.free hp
    · exact h.fresh a (List.mem_cons_of_mem _ ha)
  · rw [upd_ne (ne_of_none eb (h.fresh pl List.mem_cons_self))]
    exact h2.same b o eb
def lackT (st : List Ent) : Nat := (st.map fun x => 1 - x.vs.length).sum
def lackR : List Ent → Nat
  | [] => 0
  | x :: r => (2 - x.vs.length) + lackT r
def KindsR (kind : Bool) : List Ent → Prop
  | [] => False
  | [x] => x.k = kind
  | x :: y :: r => x.k = !y.k ∧ KindsR kind (y :: r)
def pileW (st : List Ent) : Nat := (st.map fun x => wordsL x.ns).sum
def spMore (K : PySem.W.Frag) : Sp := fun vs H Q _ => ∃ (l : Addr) (ns : List Int), vs = [.ref l] ∧ SqL K H l (ns.map V.int) ∧ ns.length ≤ 63 ∧
  ∀ (f : Addr) (ms : List Int) (H' : Hp), H f = none → H' f = some (.lst (ms.map V.int)) → Same H H' → ms.length = 3 * ns.length → Q (.ref f) H'
def spLack (K : PySem.W.Frag) : Sp := fun vs H Q _ => ∃ (pl : Addr) (x : Ent) (r : List Ent), vs = [.ref pl] ∧ H pl = some (.lst (refsE (x :: r))) ∧ (∀ y ∈ x :: r, EntAt K H y) ∧ r.length ≤ 900 ∧
  ∀ H', Same H H' → Q (.int (lackR (x :: r) : Nat)) H'
def spNest (K : PySem.W.Frag) : Sp := fun vs H Q _ => ∃ (l : Addr) (cs : List Int) (k : Bool) (most : Nat), vs = [.ref l, .str (kS k), .int (most : Int)] ∧ SqL K H l (cs.map V.int) ∧ cs.length ≤ 200 ∧
  ∀ (n : Nest) (v : V) (H' : Hp), NestAt K H' n v → valid none n = true → (words n ≤ most ∨ words n = 1) → Same H H' → Q v H'
theorem dec_and {a b : TT} {σ : L2.St} {H : Hp} {A B : Bool} (ha : ∀ Q : Bool → Hp → Prop, Q A H → a σ H Q) (hb : ∀ Q : Bool → Hp → Prop, Q B H → b σ H Q) : ∀ Q : Bool → Hp → Prop, Q (A && B) H → tAnd a b σ H Q := fun Q h => by
  refine ha _ ?_
  cases A with
  | true => exact hb Q h
  | false => exact h
theorem dec_or {a b : TT} {σ : L2.St} {H : Hp} {A B : Bool} (ha : ∀ Q : Bool → Hp → Prop, Q A H → a σ H Q) (hb : ∀ Q : Bool → Hp → Prop, Q B H → b σ H Q) : ∀ Q : Bool → Hp → Prop, Q (A || B) H → tOr a b σ H Q := fun Q h => by
  refine ha _ ?_
  cases A with
  | true => exact h
  | false => exact hb Q h
end Tn
namespace L2
open PySem PySem.Spec PyProof.Rows
theorem argBest_le (bt : Nat → Nat → Bool) : ∀ k, argBest bt k ≤ k
  | 0 => by rw [argBest.eq_1]; exact Nat.le_refl _
  | k + 1 => by
    rw [argBest.eq_def]
    dsimp only
    have := argBest_le bt k
    split
    · exact Nat.le_refl _
    · omega
section
variable {X : Cx}
end
end L2
namespace Tn
open PySem L2
mutual
theorem depth_words {K : PySem.W.Frag} {H : Hp} : ∀ {n : Nest} {v : V}, NestAt K H n v → depthN n + 1 ≤ words n
  | .word, _, _ => by simp [words, depthN]
  | .knot _ ps, _, ⟨_, _, vs, _, _, _, h3, _, h5⟩ => by
    have h6 := depthL_words h5
    have h7 := NestsAt.len h5
    simp only [words, depthN]
    omega
  | .bad, _, _ => by simp [words, depthN]
theorem depthL_words {K : PySem.W.Frag} {H : Hp} : ∀ {ns : List Nest} {vs : List V}, NestsAt K H ns vs → depthL ns + ns.length ≤ wordsL ns
  | [], _, _ => by simp [wordsL, depthL]
  | n :: r, _, ⟨_, _, _, h1, h2⟩ => by
    have h3 := depth_words h1
    have h4 := depthL_words h2
    have h5 := wordsL_pos h2
    have h6 := words_pos h1
    simp only [wordsL, depthL, List.length_cons]
    have : Nat.max (depthN n) (depthL r) ≤ depthN n ∨ Nat.max (depthN n) (depthL r) ≤ depthL r := by
      rcases Nat.le_total (depthN n) (depthL r) with h | h
      · right; exact Nat.max_le.mpr ⟨h, Nat.le_refl _⟩
      · left; exact Nat.max_le.mpr ⟨Nat.le_refl _, h⟩
    omega
end
def spMust (K : PySem.W.Frag) (C : Addr) : Sp := fun vs H Q E => ∃ v n, vs = [v] ∧ NestAt K H n v ∧ (okN n = true → ∀ H', Same H H' → Q .non H') ∧ (okN n = false → ∀ H', Same H H' → E (.ref C) none H')
def spAsk (K : PySem.W.Frag) (C : Addr) (g : Nest → Nat) : Sp := fun vs H Q E => ∃ v n, vs = [v] ∧ NestAt K H n v ∧ (okN n = true → ∀ H', Same H H' → Q (.int (g n : Nat)) H') ∧ (okN n = false → ∀ H', Same H H' → E (.ref C) none H')
def spCount (K : PySem.W.Frag) (g : Nest → Nat) (d : Nat) : Sp := fun vs H Q _ => ∃ v n o, vs = [v] ∧ NestAt K H n v ∧ valid o n = true ∧ depthN n < d ∧ ∀ H', Same H H' → Q (.int (g n : Nat)) H'
theorem okN_valid {n : Nest} (h : okN n = true) : valid none n = true ∧ words n ≤ 60 := by
  unfold okN at h
  obtain ⟨a, b⟩ := Bool.and_eq_true_iff.mp h
  exact ⟨a, of_decide_eq_true b⟩
theorem validL_get {k : Bool} : ∀ {ps : List Nest} {i : Nat} {n : Nest}, validL k ps = true → ps[i]? = some n → valid (some k) n = true
  | [], _, _, _, h => nomatch h
  | m :: r, 0, _, hv, h => by cases h; simp only [validL, Bool.and_eq_true] at hv; exact hv.1
  | m :: r, i + 1, _, hv, h => by simp only [validL, Bool.and_eq_true] at hv; exact validL_get (i := i) hv.2 (by simpa using h)
theorem depthL_get : ∀ {ps : List Nest} {i : Nat} {n : Nest}, ps[i]? = some n → depthN n ≤ depthL ps
  | [], _, _, h => nomatch h
  | m :: r, 0, _, h => by cases h; simp only [depthL]; exact Nat.le_max_left _ _
  | m :: r, i + 1, _, h => by simp only [depthL]; exact Nat.le_trans (depthL_get (i := i) (by simpa using h)) (Nat.le_max_right _ _)
theorem wordsL_sum : ∀ ps : List Nest, ((ps.map fun n => ((words n : Nat) : Int)).sum) = ((wordsL ps : Nat) : Int)
  | [] => rfl
  | n :: r => by simp only [List.map_cons, List.sum_cons, wordsL, wordsL_sum r]; omega
end Tn
namespace Tn
open L2 PySem PySem.W PySem.Calls PyProof.Rows PySem.Spec
def sTryIf (K : Frag) (C : Addr) (tc : TT) (sp sp' : Sp) (t t' : TA) (i : Nat) (tH : Addr → TS) : TS := fun D σ H => tc σ H fun b H1 => if b = true then sTry K C sp t i tH D σ H1 else sTry K C sp' t' i tH D σ H1
end Tn
namespace L2
open PySem PySem.Spec PyProof PyProof.Rows
theorem rep_tuple : seqRepeat? (Value.type "tuple") = pure (some (Value.builtin "tuple.__mul__")) := by
  have h1 : seqSlot? (Value.type "tuple") (Str.ofString "__mul__") = pure (some (Value.builtin "tuple.__mul__")) := PySem.seqSlot_of F.slot_tuple_mul.lookup (by decide +kernel)
  have h2 : seqSlot? (Value.type "tuple") (Str.ofString "__rmul__") = pure (some (Value.builtin "tuple.__rmul__")) := PySem.seqSlot_of F.slot_tuple_rmul.lookup (by decide +kernel)
  unfold seqRepeat?
  rw [h1, h2]
  rfl
theorem noFill_tuple_mul : fillsNumberSlot (Value.type "tuple") "mul" = pure false := PySem.fillsNumberSlot_seq F.slot_tuple_mul.lookup (by decide +kernel) F.slot_tuple_rmul.lookup (by decide +kernel)
theorem int_rmul_tuple (a : Int) (t : Tok) (l : Addr) (items : Array Value) (n : Nat) (dd : Option Addr) (sl : Array (Option Value)) :
    Meets (Builtin.«int.__rmul__» { pos := [Value.int a t, Value.ref l] }) fun x R s => s.heap.get? l = some { cls := Value.type "tuple", dict := dd, data := Data.seq items n, slots := sl } ∧ R (Except.ok (Flow.ret Value.notImplemented)) s := by
  refine Meets.of_wp fun prog w A R s h => ?_
  obtain ⟨hl, h⟩ := h
  wp_walk using wpAny_load' hl
  exact ⟨_, rfl, h⟩
theorem fold_one (v : Value) (m : Nat) : List.foldl (fun x1 x2 => x1 ++ x2) #[] (List.replicate m #[v]) = (List.replicate m v).toArray := by
  have gen : ∀ (m : Nat) (acc : Array Value), List.foldl (fun x1 x2 => x1 ++ x2) acc (List.replicate m #[v]) = acc ++ (List.replicate m v).toArray := by
    intro m
    induction m with
    | zero => intro acc; simp
    | succ m ih =>
      intro acc
      rw [List.replicate_succ, List.foldl_cons, ih, List.replicate_succ]
      apply Array.toList_inj.mp
      simp only [Array.toList_append, List.append_assoc]
      rfl
  rw [gen]
  simp
theorem tuple_mul_one (l : Addr) (v : Value) (n : Nat) (dd : Option Addr) (sl : Array (Option Value)) (k : Int) (u : Tok) (hk : 1 < k) (hk2 : k < 1000000) :
    Meets (Builtin.«tuple.__mul__» { pos := [Value.ref l, Value.int k u] }) fun x R s => s.heap.get? l = some { cls := Value.type "tuple", dict := dd, data := Data.seq #[v] n, slots := sl } ∧
      R (Except.ok (Flow.ret (.ref s.heap.objs.size))) { s with heap := s.heap.push { cls := .type "tuple", data := .seq (List.replicate k.toNat v).toArray } } := by
  refine Meets.of_wp fun prog w A R s h => ?_
  obtain ⟨hl, h⟩ := h
  wp_walk using wpAny_load' hl
  have c1 : ¬ ((decide (k < -2 ^ 63) || decide (k ≥ 2 ^ 63)) = true) := by simp; omega
  rw [if_neg c1]
  wp_walk using wpAny_load' hl
  have hline : 1000000 ≤ sizeLine := by rw [sizeLine_eq]; omega
  have c2 : ¬ (((#[v] : Array Value).isEmpty || k == 1) = true) := by simp; omega
  rw [if_neg c2]
  have c3 : ¬ ((decide (k ≤ 0) || (#[v] : Array Value).isEmpty) = true) := by simp; omega
  have c4 : ¬ (((#[v] : Array Value).size : Int) * k > (2 ^ 63 - 1) / 8) := by simp; omega
  have c5 : ¬ (Builtin.Tuple.tupleTooMany (((#[v] : Array Value).size : Int) * k) = true) := by
    unfold Builtin.Tuple.tupleTooMany
    simp
    omega
  rw [if_neg c3, if_neg c4, if_neg c5]
  unfold Builtin.Tuple.tupleExact
  show wpAny _ _ (newObj (Value.type "tuple") (Data.seq (List.foldl (fun x1 x2 => x1 ++ x2) #[] (List.replicate k.toNat #[v]))) >>= fun v => ret v) _ _ _
  rw [fold_one]
  refine wpAny_bind (wpAny_newObj_type ?_ (by show (List.replicate k.toNat v).toArray.size ≤ sizeLine; simp; omega))
  exact wpAny_pure ⟨_, rfl, h⟩
section
variable {X : Cx}
def rRepT (K : PySem.W.Frag) : R2 := fun x y H Q => ∃ a k z, x = .ref a ∧ y = .int k ∧ SqT K H a [z] ∧ 1 < k ∧ k < 1000000 ∧ ∀ p, H p = none → Q (.ref p) (upd H p (.tup (List.replicate k.toNat z)))
theorem vals_repl {z : V} {v : Value} (r : RelV z v) : ∀ m : Nat, Vals (List.replicate m z) (List.replicate m v)
  | 0 => .nil
  | m + 1 => .cons r (vals_repl r m)
theorem op_repT : OpR X (binaryOp .Mult) (rRepT X.K) := by
  intro pins s σ H x y v u Q I rx ry h
  obtain ⟨a, k, z, rfl, rfl, ha, h1, h2, q⟩ := h
  cases rx
  obtain ⟨t, rfl⟩ := ry
  obtain ⟨its, r, p, hz⟩ := I.tuple ha
  obtain ⟨u, rfl, rz⟩ := vals1 r
  obtain ⟨⟨cls, dd, data, sl⟩, e, hc, n, hd⟩ := p
  cases hc
  cases hd
  refine wpAny_binaryOp_repeat_ref (T := "tuple") (U := "int") (by decide) ⟨_, e, rfl⟩ (fun s' => typeIs_int s' k t) noFill_tuple_mul F.fills_int_mul F.slot_int_rmul rep_tuple F.slot_int_index.lookup
    (call_meets F.slot_int_rmul (typeIs_int s k t) F.entry_int_rmul (F.args_int_rmul_2 _ _) (int_rmul_tuple k t a _ n dd sl)
      ⟨e, rfl, ⟨_, e, rfl⟩, call_meets F.slot_tuple_mul ⟨_, e, rfl⟩ F.entry_tuple_mul (F.args_tuple_mul_2 _ _) (tuple_mul_one a u n dd sl k t h1 h2) ⟨e, ?_⟩⟩)
  refine ⟨.ref s.heap.objs.size, _, I.laid (t' := s.toks) (o := .tup (List.replicate k.toNat z)) (fun b ob q => Heap.get?_push_of_some _ q) (Nat.le_refl _) ?_, rfl, q _ (I.hok.fresh (Nat.le_refl _))⟩
  have hline : 1000000 ≤ sizeLine := by rw [sizeLine_eq]; omega
  exact ⟨by rw [List.length_replicate]; omega, _, vals_repl rz _, IsTupN.new _ _⟩
def rCatA (K : PySem.W.Frag) : R2 := fun x y H Q => ∃ a b xs ys, x = .ref a ∧ y = .ref b ∧ SqT K H a xs ∧ SqT K H b ys ∧ xs.length + ys.length ≤ sizeLine ∧
  ((xs = [] ∧ Q (.ref b) H) ∨ (xs ≠ [] ∧ ys = [] ∧ Q (.ref a) H) ∨ (xs ≠ [] ∧ ys ≠ [] ∧ ∀ p, H p = none → Q (.ref p) (upd H p (.tup (xs ++ ys)))))
end
end L2
namespace Tn
open PySem L2
theorem kit_not (K : PySem.W.Frag) {n m : String} (h0 : PySem.W.kitMeta m = true) (h1 : (Value.type n == Value.type m) = false) (h2 : (fastBuiltinMro n).map (·.contains (.type m)) = some false) : PySem.W.kitOne K (.type n) (.type m) = some false := by
  unfold PySem.W.kitOne
  rw [if_neg (by rw [h1]; decide)]
  show (if PySem.W.kitMeta m = true then PySem.W.subIn K (.type n) (.type m) else none) = some false
  rw [if_pos h0]
  exact h2
theorem NestsAt.take {K : PySem.W.Frag} {H : Hp} : ∀ {ns : List Nest} {vs : List V} (k : Nat), NestsAt K H ns vs → NestsAt K H (ns.take k) (vs.take k)
  | _, _, 0, _ => by rw [List.take_zero, List.take_zero]; rfl
  | [], _, _ + 1, h => by have h : _ = [] := h; subst h; rfl
  | _ :: _, _, k + 1, ⟨v, vr, e, h1, h2⟩ => by subst e; exact ⟨v, _, rfl, h1, NestsAt.take k h2⟩
theorem NestsAt.drop {K : PySem.W.Frag} {H : Hp} : ∀ {ns : List Nest} {vs : List V} (k : Nat), NestsAt K H ns vs → NestsAt K H (ns.drop k) (vs.drop k)
  | _, _, 0, h => h
  | [], _, _ + 1, h => by have h : _ = [] := h; subst h; rfl
  | _ :: _, _, k + 1, ⟨v, vr, e, h1, h2⟩ => by subst e; exact NestsAt.drop k h2
theorem cutV_head (xs : List V) (k : Nat) (h : k ≤ xs.length) : cutV xs none (some (k : Int)) = xs.take k := by
  have := cut_head id xs k h
  simpa using this
theorem cutV_tail (xs : List V) (k : Nat) (h : k ≤ xs.length) : cutV xs (some (k : Int)) none = xs.drop k := by
  have := cut_tail id xs k h
  simpa using this
def spNone (K : PySem.W.Frag) : Sp := fun vs H Q _ => ∃ v n c, vs = [v, .int c] ∧ NestAt K H n v ∧ valid none n = true ∧ words n ≤ 60 ∧ ∀ (n' : Nest) (v' : V) (H' : Hp), NestAt K H' n' v' → okN n' = false → Same H H' → Q v' H'
end Tn
namespace Tn
open L2 PySem PySem.W PySem.Calls PyProof.Rows PySem.Spec
def Has (P : Program) (w : World) (K : PySem.W.Frag) (mg : Str → Option Value) (base : Heap) (CX : CXT) (k : Nat) (x : Str) (ps : List Str) (sp : Sp) : Prop :=
  ∃ (f : Addr) (fd : FuncData), FnOk P w K mg base CX k f fd ps sp ∧ PySem.W.keepIn K (.ref f) = true ∧ mg x = some (.ref f) ∧ Binds K fd ps []
structure Def (K : PySem.W.Frag) (mg : Str → Option Value) (x : Str) (st : Stmt) (ps : List Str) : Prop where
  ex : ∃ (f : Addr) (fd : FuncData), L2.Fun K x x st f fd ∧ PySem.W.keepIn K (.ref f) = true ∧ mg x = some (.ref f) ∧ Binds K fd ps []
section
variable {P : Program} {w : World} {K : PySem.W.Frag} {mg : Str → Option Value} {base : Heap} {x : Str} {st : Stmt} {N ps : List Str} {k : Nat} {sp sp' : Sp} {CX : CXT}
theorem Def.ok (D : Def K mg x st ps) (S : FnScope N ps (defScope st)) (len : ∀ vs H Q E, sp vs H Q E → vs.length = ps.length)
    (hbody : ∀ (f : Addr) (cdv : Value) (A : Around) (outer : List Env) (s : Shared) (H : Hp) (vs : List V) (Q : VK) (E : XK), Room k (A.deeper (envOfC x (defScope st) s.heap.objs.size f cdv)) → sp vs H Q E →
      ∃ t, PSs (cxOf CX0 P w K mg base N x (defScope st) f cdv A outer s H E).nox (defBody st) t ∧ t { nx := fun _ H' => Q .non H', rt := Q } (start N vs) H) : Has P w K mg base CX0 (k + 1) x ps sp := by
  obtain ⟨f, fd, F, h1, h2, h3⟩ := D.ex
  exact ⟨f, fd, F.ok S len (fun cdv A outer s H vs Q E => hbody f cdv A outer s H vs Q E), h1, h2, h3⟩
theorem Def.okV (D : Def K mg x st ps) (S : FnScope N ps (defScope st)) (len : ∀ vs H Q E, sp vs H Q E → vs.length = ps.length)
    (hbody : ∀ (f : Addr) (cdv : Value) (A : Around) (outer : List Env) (s : Shared) (H : Hp) (vs : List V) (Q : VK) (E : XK), Room k (A.deeper (envOfC x (defScope st) s.heap.objs.size f cdv)) → sp vs H Q E →
      ∃ t, PSs (cxOf (CXV P w) P w K mg base N x (defScope st) f cdv A outer s H E) (defBody st) t ∧ t { nx := fun _ H' => Q .non H', rt := Q } (start N vs) H) : Has P w K mg base (CXV P w) (k + 1) x ps sp := by
  obtain ⟨f, fd, F, h1, h2, h3⟩ := D.ex
  exact ⟨f, fd, funV F S len (fun cdv A outer s H vs Q E => hbody f cdv A outer s H vs Q E), h1, h2, h3⟩
theorem Def.rec0 (D : Def K mg x st ps) (h : ∀ vs H Q E, ¬ sp vs H Q E) : Has P w K mg base CX k x ps sp := by
  obtain ⟨f, fd, F, h1, h2, h3⟩ := D.ex
  exact ⟨f, fd, ⟨fun vs H Q E z => absurd z (h vs H Q E), fun A outer s H args us vs Q E _ _ _ _ z => absurd z (h vs H Q E)⟩, h1, h2, h3⟩
theorem Has.mono {j : Nat} (F : Has P w K mg base CX j x ps sp) (h : j ≤ k) : Has P w K mg base CX k x ps sp :=
  let ⟨f, fd, G, r⟩ := F; ⟨f, fd, G.mono h, r⟩
theorem Has.imp (F : Has P w K mg base CX k x ps sp) (h : ∀ vs H Q E, sp' vs H Q E → sp vs H Q E) : Has P w K mg base CX k x ps sp' :=
  let ⟨f, fd, G, r⟩ := F; ⟨f, fd, G.imp h, r⟩
end
def tHas (sp : Sp) (E : XK) (t : TA) : TE := fun σ H Q => t σ H fun vs H1 => sp vs H1 Q E
section
variable {X : Cx}
theorem pe_has {CX : CXT} {k : Nat} {x : Str} {ps : List Str} {sp : Sp} {E : XK} {e : Expr} {es : List Expr} {t : TA} {p pos : Pos} (F : Has X.prog X.w X.K X.mg X.base CX k x ps sp) (hr : Room k X.A) (hg : Gl X x) (hx : Passes CX X E)
    (ha : PA X (e :: es) t) (hdb : (x == ("__debug__" : Str)) = false := by decide) (he : starEach (e :: es) X.env = (false, eval e X.env) :: starEach es X.env := by rfl) (hpl : (backTo pos (starEach es X.env)).any (·.1) = false := by rfl) :
    PE X (.Call (.Name x p) (e :: es) [] pos) (tHas sp E t) := by
  obtain ⟨f, fd, G, h1, h2, h3⟩ := F
  have e0 : tHas sp E t = tCall sp [] E t := by
    funext σ H Q
    show t σ H (fun vs H1 => sp vs H1 Q E) = t σ H (fun vs H1 => sp (vs ++ []) H1 Q E)
    congr 1
    funext vs H1
    rw [List.append_nil]
  rw [e0]
  exact pe_call G hr hg h2 h1 h3 .nil hx ha hdb he hpl
theorem ps_tryH {k : Nat} {C : Addr} {ps : List Str} {sp : Sp} {x cx n : Str} {p cpos epos tp hpos tpos : Pos} {e : Expr} {es : List Expr} {t : TA} {b0 : Stmt} {suite : List Stmt} {tH : Addr → TS} {i : Nat}
    (F : Has X.prog X.w X.K X.mg X.base (CXV X.prog X.w) k x ps sp) (hr : Room k X.A) (hg : Gl X x)
    (hstk : X.stack = X.env :: X.outer) (hfr : X.env.frame = some X.env.locals) (hgC : Gl X cx) (hmC : X.mg cx = some (.ref C)) (T : CatTxt X.K C) (hN : X.N.Nodup) (hi : X.N[i]? = some n) (hkn : X.env.kindOf n = some .local)
    (ha : PA X.nox (e :: es) t) (hs : ∀ y, PSs (caught X y) (b0 :: suite) (tH y))
    (hdb : (x == ("__debug__" : Str)) = false := by decide) (hdC : (cx == ("__debug__" : Str)) = false := by decide) (he : starEach (e :: es) X.env = (false, eval e X.env) :: starEach es X.env := by rfl) (hpl : (backTo cpos (starEach es X.env)).any (·.1) = false := by rfl)
    (hsw : swapsWith (.Call (.Name x p) (e :: es) [] cpos) none epos.line X.env = pure false := by rfl) :
    PS X (.Try [.Expr (.Call (.Name x p) (e :: es) [] cpos) epos] [.ExceptHandler (some (.Name cx tp)) (some n) (b0 :: suite) hpos] [] [] tpos) (sTry X.K C sp t i tH) := by
  obtain ⟨f, fd, G, h1, h2, h3⟩ := F
  exact ps_try G hr hg h2 h1 h3 hstk hfr hgC hmC T hN hi hkn ha hs hdb hdC he hpl hsw
theorem op_mulW : OpR X (binaryOp .Mult) (rI IntMulOk fun i j => .int (i * j)) := opI fun _ _ _ _ _ _ _ hc q => PyProof.Rows.mul_int q hc
def rIsi (K : PySem.W.Frag) : List V → Hp → VK → Prop := fun xs H Q => ∃ x t n b, xs = [x, .ty n] ∧ TyOf K H x t ∧ PySem.W.kitOne K t (.type n) = some b ∧ Q (.bl b) H
end
structure ExcL (K : PySem.W.Frag) (T C : Addr) : Prop where
  xC : PySem.W.excIn K C bmVE "ValueError.__new__" = true
  tx : ExcTxt K C
  ct : CatTxt K T
  mr : PySem.W.mroIn K C (.ref T) = some true
  ve : PySem.W.kitOne K (.ref C) (.type "ValueError") = some true
def spCellAt (K : PySem.W.Frag) : Sp := fun vs H Q _ => ∃ (a : Addr) (ns : List Int) (k : Nat), vs = [.ref a, .int (k : Int)] ∧ SqL K H a (ns.map V.int) ∧ ∀ z : Int, Q (.int z) H
def spLawOf (K : PySem.W.Frag) : Sp := fun vs H Q _ => ∃ (a : Addr) (ns : List Int), vs = [.ref a] ∧ SqL K H a (ns.map V.int) ∧ ns.length ≤ 63 ∧ ∀ H', Q (.bl true) H'
theorem mulOk_of {i j : Int} (h1 : -(2 ^ 64) < i) (h2 : i < 2 ^ 64) : IntMulOk i j := CMul.ok (.inl ⟨h1, h2⟩)
end Tn
namespace Tn
open L2 PySem
theorem go_c {X : Cx} {s : Stmt} {ss : List Stmt} {C : TS → Prop} {t : TS} (hs : PS X s t) (k : let t' := t; ∃ u, PSs X ss u ∧ C (tSeq t' u)) : ∃ u, PSs X (s :: ss) u ∧ C u :=
  let ⟨_, hu, hc⟩ := k; ⟨_, pss_cons hs hu, hc⟩
theorem go_1 {X : Cx} {s : Stmt} {C : TS → Prop} {t : TS} (hs : PS X s t) (k : let t' := t; C t') : ∃ u, PSs X [s] u ∧ C u := ⟨_, pss_one hs, k⟩
end Tn
namespace Tn
theorem len_1 {α : Type} {us : List α} (h : us.length = 1) : ∃ a, us = [a] := match us, h with | [a], _ => ⟨a, rfl⟩
theorem len_2 {α : Type} {us : List α} (h : us.length = 2) : ∃ a b, us = [a, b] := match us, h with | [a, b], _ => ⟨a, b, rfl⟩
theorem len_3 {α : Type} {us : List α} (h : us.length = 3) : ∃ a b c, us = [a, b, c] := match us, h with | [a, b, c], _ => ⟨a, b, c, rfl⟩
end Tn
namespace L2
open PySem PySem.Spec PyProof.Rows
theorem argBest_min (val : Nat → Int) : ∀ k i, i ≤ k → val (argBest (fun i j => decide (val i < val j)) k) ≤ val i
  | 0, i, h => by
    have : i = 0 := by omega
    subst this
    rw [argBest.eq_1]
    exact Int.le_refl _
  | k + 1, i, h => by
    have ih := argBest_min val k
    rw [argBest.eq_def]
    dsimp only
    by_cases hb : val (k + 1) < val (argBest (fun i j => decide (val i < val j)) k)
    · rw [if_pos (decide_eq_true hb)]
      by_cases hi : i = k + 1
      · subst hi; exact Int.le_refl _
      · have := ih i (by omega)
        omega
    · rw [if_neg (by simpa using hb)]
      by_cases hi : i = k + 1
      · subst hi; omega
      · exact ih i (by omega)
section
variable {prog : Program} {w : World} {A : Around} {E : Value → Shared → Prop} {s : Shared} {l : Addr} {xs : Array (Int × Tok)}
end
theorem num_at {zs : List (Int × Tok)} {ns : List Int} (hz : zs.map (·.1) = ns) {i : Nat} (hi : i < ns.length) : numAt zs.toArray i = ns[i] := by
  have hlen : zs.length = ns.length := by rw [← hz, List.length_map]
  have hzl : i < zs.length := by omega
  have h1 : (zs.map (·.1))[i]? = some (zs[i]).1 := by rw [List.getElem?_map, List.getElem?_eq_getElem hzl]; rfl
  rw [hz, List.getElem?_eq_getElem hi] at h1
  rw [numAt.eq_1, List.getElem?_toArray, List.getElem?_eq_getElem hzl]
  exact (Option.some.inj h1).symm
theorem best_min {zs : List (Int × Tok)} {ns : List Int} (hz : zs.map (·.1) = ns) {m : Int} (hm : m ∈ ns) (hx : ∀ z ∈ ns, m ≤ z) : numAt zs.toArray (argBest (fun i j => decide (numAt zs.toArray i < numAt zs.toArray j)) (zs.toArray.size - 1)) = m := by
  have hlen : zs.length = ns.length := by rw [← hz, List.length_map]
  have hpos := List.length_pos_of_mem hm
  have hb := argBest_le (fun i j => decide (numAt zs.toArray i < numAt zs.toArray j)) (zs.toArray.size - 1)
  rw [List.size_toArray] at hb ⊢
  have h1 : m ≤ numAt zs.toArray (argBest (fun i j => decide (numAt zs.toArray i < numAt zs.toArray j)) (zs.length - 1)) := by
    rw [num_at hz (by omega)]; exact hx _ (List.getElem_mem _)
  obtain ⟨j, hj, ej⟩ := List.getElem_of_mem hm
  have h2 := argBest_min (numAt zs.toArray) (zs.length - 1) j (by omega)
  rw [num_at hz hj, ej] at h2
  omega
section
variable {X : Cx}
def rInsert : V → List V → Hp → VK → Prop := fun x vs H Q => ∃ (l : Addr) (xs : List V) (k : Nat) (y : V), x = .ref l ∧ vs = [.int (k : Int), y] ∧ H l = some (.lst xs) ∧ k ≤ xs.length ∧ xs.length < 1000000 ∧ Q .non (upd H l (.lst (xs.take k ++ [y] ++ xs.drop k)))
def rExtendT (K : PySem.W.Frag) : V → List V → Hp → VK → Prop := fun x vs H Q => ∃ l b xs zs, x = .ref l ∧ vs = [.ref b] ∧ H l = some (.lst xs) ∧ H b = some (.tup zs) ∧ xs.length + zs.length ≤ sizeLine ∧ Q .non (upd H l (.lst (xs ++ zs)))
inductive DEq (K : PySem.W.Frag) (H : Hp) : Nat → V → V → Bool → Prop where
  | flat {d : Nat} {x y : V} (hx : flatV x = true) (hy : flatV y = true) : DEq K H d x y (eqV x y)
  | same {d : Nat} {a : Addr} : DEq K H d (.ref a) (.ref a) true
  | tup {d : Nat} {a b : Addr} {xs ys : List V} {e : Nat → Bool} (hab : a ≠ b) (ha : SqT K H a xs) (hb : SqT K H b ys) (he : ∀ j x y, xs[j]? = some x → ys[j]? = some y → DEq K H d x y (e j)) : DEq K H (d + 1) (.ref a) (.ref b) ((List.range (min xs.length ys.length)).all e && xs.length == ys.length)
  | tupStr {d : Nat} {a : Addr} {xs : List V} {z : Str} (ha : SqT K H a xs) : DEq K H (d + 1) (.ref a) (.str z) false
theorem deq_all {K : PySem.W.Frag} {H : Hp} {d : Nat} {a b : Addr} {xs ys : List V} {e : Nat → Bool} {k : Bool} (hab : a ≠ b) (ha : SqT K H a xs) (hb : SqT K H b ys) (hl : xs.length = ys.length) (he : ∀ j x y, xs[j]? = some x → ys[j]? = some y → DEq K H d x y (e j)) (hk : (List.range xs.length).all e = k) : DEq K H (d + 1) (.ref a) (.ref b) k := by
  have := DEq.tup hab ha hb he
  rw [← hl, Nat.min_self, hk, beq_self_eq_true, Bool.and_true] at this
  exact this
def rEqD (K : PySem.W.Frag) : R2 := fun x y H Q => ∃ (a b : Addr) (xs ys : List V) (e : Nat → Bool), x = .ref a ∧ y = .ref b ∧ SqT K H a xs ∧ SqT K H b ys ∧ (∀ j x y, xs[j]? = some x → ys[j]? = some y → DEq K H 40 x y (e j)) ∧ Q (.bl ((List.range (min xs.length ys.length)).all e && xs.length == ys.length)) H
def rEqB (K : PySem.W.Frag) (neg : Bool) : R2 := fun x y H Q => ∃ z : Str, y = .str z ∧ ((x = .non ∧ Q (.bl neg) H) ∨ (∃ a xs, x = .ref a ∧ SqT K H a xs ∧ Q (.bl neg) H) ∨ ∃ u, x = .str u ∧ Q (.bl (if neg then !decide (V.str u = V.str z) else decide (V.str u = V.str z))) H)
end
end L2
namespace Tn
def mx2 (i j : Int) : Int := if j > i then j else i
def mn2 (i j : Int) : Int := if j < i then j else i
def mxL (l : List Int) : Int := l.foldl mx2 (-1)
def mnL (n : Int) (l : List Int) : Int := l.foldl mn2 n
def upB (ord : List Int) (p : Nat) : Bool := (ord.take p).all fun w => decide (w < (p : Int))
def dnB (ord : List Int) (p : Nat) : Bool := (ord.take p).all fun w => decide ((ord.length : Int) - (p : Int) ≤ w)
def negO (ord : List Int) : List Int := ord.map fun w => (ord.length : Int) - 1 - w
def places (ord : List Int) (q : Nat → Bool) (k : Nat) : List Nat := ((List.range k).map (· + 1)).filter q
def risF (ord : List Int) : List Nat := places ord (upB ord) (ord.length - 1)
def falF (ord : List Int) : List Nat := places ord (dnB ord) (ord.length - 1)
end Tn
namespace Tn
def RiseAt (l : List Int) (p : Nat) : Prop := ∀ a ∈ l.take p, ∀ b ∈ l.drop p, a < b
def FallAt (l : List Int) (p : Nat) : Prop := ∀ a ∈ l.take p, ∀ b ∈ l.drop p, b < a
def Bar1 (w x y z : Int) : Prop := y < w ∧ w < z ∧ z < x
def Bar2 (w x y z : Int) : Prop := x < z ∧ z < w ∧ w < y
def HasBar (l : List Int) : Prop := ∃ (i j k m : Nat) (w x y z : Int), i < j ∧ j < k ∧ k < m ∧ l[i]? = some w ∧ l[j]? = some x ∧ l[k]? = some y ∧ l[m]? = some z ∧ (Bar1 w x y z ∨ Bar2 w x y z)
end Tn
namespace L2
open PySem PySem.Spec PyProof.Rows
section
variable {X : Cx}
theorem bool_items : ∀ {bs : List Bool} {its : List Value}, Vals (bs.map V.bl) its → its = bs.map Value.bool
  | [], _, .nil => rfl
  | b :: bs, _, .cons r t => by cases r; rw [bool_items t]; rfl
theorem call_allL (hc : X.calm = true) : CallR X (.builtin "all") (fun vs H Q => ∃ (p : Addr) (bs : List Bool), vs = [.ref p] ∧ SqL X.K H p (bs.map V.bl) ∧ Q (.bl ((List.range bs.length).all fun i => bs.getD i true)) H) := by
  intro pins s σ H xs us Q I r h
  obtain ⟨p, bs, rfl, hp, q⟩ := h
  obtain ⟨u, rfl, rx⟩ := vals1 r
  cases rx
  obtain ⟨its, rv, pl, _⟩ := I.list hp
  have hb := bool_items rv
  subst hb
  have hl : s.heap.IsList p (bs.map Value.bool).toArray := pl.isList
  have hlt : p < s.heap.objs.size := by obtain ⟨_, e, _⟩ := hl; exact Heap.lt_size e
  refine call_all_walk (wpAny_pyIter_list hl ⟨_, _, _, _, _, _, fun i => bs.getD i true, rfl, Walks.list (A := X.A.in1) (I.ok.hd hc) _ p (Nat.ne_of_lt hlt) (bs.map Value.bool).toArray, ⟨⟨_, Heap.get?_push_size _ rfl, rfl, rfl⟩, hl.push _⟩, ?_, fun h' tk hk => ?_⟩)
  · intro i v s' Q' E' hP hq
    have hP : (bs.map Value.bool).toArray[i]? = some v := hP
    rw [List.getElem?_toArray, List.getElem?_map] at hP
    cases hbi : bs[i]? with
    | none => rw [hbi] at hP; cases hP
    | some b =>
      rw [hbi] at hP
      cases hP
      have : bs.getD i true = b := by rw [List.getD_eq_getElem?_getD, hbi]; rfl
      have hq : Q' (bs.getD i true) s' := hq
      rw [this] at hq
      exact wpAny_truthy_bool hq
  · have kp : ∀ b o, s.heap.get? b = some o → h'.get? b = some o := fun b o e => hk b o (fun hm => by
      have z : b = s.heap.objs.size := by simpa using hm
      rw [z] at e; exact absurd (Heap.lt_size e) (Nat.lt_irrefl _)) (Heap.get?_push_of_some _ e)
    refine ⟨.bl _, H, I.kept kp, rfl, ?_⟩
    rw [List.size_toArray, List.length_map]
    exact q
end
end L2
namespace Tn
open PySem L2
theorem boot_all : bootBuiltins "all" = some (.builtin "all") := by decide +kernel
mutual
def rowN : Nest → Int → List Int
  | .word, f => [f]
  | .knot k ps, f => (if k then rowsN ps f else (rowsN ps f).reverse).flatten
  | .bad, _ => []
def rowsN : List Nest → Int → List (List Int)
  | [], _ => []
  | n :: r, f => rowN n f :: rowsN r (f + ((rowN n f).length : Int))
end
theorem flat_rev_perm (l : List (List Int)) : l.reverse.flatten.Perm l.flatten := by
  induction l with
  | nil => exact .refl _
  | cons a l ih =>
    rw [List.reverse_cons, List.flatten_append, List.flatten_cons, List.flatten_cons, List.flatten_nil, List.append_nil]
    exact List.perm_append_comm.trans (List.Perm.append_left a ih)
def fromTo (f : Int) (n : Nat) : List Int := (upto n).map fun z => f + z
theorem fromTo_add (f : Int) (a b : Nat) : fromTo f (a + b) = fromTo f a ++ fromTo (f + (a : Int)) b := by
  unfold fromTo upto
  rw [List.range_add, List.map_append, List.map_append, List.map_map, List.map_map, List.map_map, List.map_map]
  congr 1
  apply List.map_congr_left
  intro i _
  show f + ((a + i : Nat) : Int) = f + (a : Int) + (i : Int)
  omega
mutual
theorem row_perm : ∀ (n : Nest) (o : Option Bool) (f : Int), valid o n = true → (rowN n f).Perm (fromTo f (words n))
  | .word, _, f, _ => by
    rw [rowN, words]
    show [f].Perm [f + 0]
    rw [Int.add_zero]
  | .knot k ps, o, f, h => by
    have hv : validL k ps = true := by simp only [valid, Bool.and_eq_true] at h; exact h.2
    have ih := rows_perm ps k f hv
    rw [rowN, words]
    cases k
    · exact (flat_rev_perm _).trans ih
    · exact ih
  | .bad, _, _, h => by simp [valid] at h
theorem rows_perm : ∀ (ps : List Nest) (k : Bool) (f : Int), validL k ps = true → (rowsN ps f).flatten.Perm (fromTo f (wordsL ps))
  | [], _, f, _ => by rw [rowsN, wordsL]; exact .refl _
  | n :: r, k, f, h => by
    simp only [validL, Bool.and_eq_true] at h
    have h1 := row_perm n (some k) f h.1
    have hl : (rowN n f).length = words n := by rw [h1.length_eq]; simp [fromTo, upto]
    have h2 := rows_perm r k (f + ((rowN n f).length : Int)) h.2
    rw [rowsN, wordsL, List.flatten_cons, fromTo_add]
    rw [hl] at h2 ⊢
    exact h1.append h2
end
theorem row_len {n : Nest} {o : Option Bool} (f : Int) (h : valid o n = true) : (rowN n f).length = words n := by
  rw [(row_perm n o f h).length_eq]; simp [fromTo, upto]
def spRow (K : PySem.W.Frag) (d : Nat) : Sp := fun vs H Q _ => ∃ (v : V) (n : Nest) (o : Option Bool) (f : Int), vs = [v, .int f] ∧ NestAt K H n v ∧ valid o n = true ∧ depthN n < d ∧ words n ≤ 1000 ∧ ∀ (p : Addr) (H' : Hp), H p = none → H' p = some (.lst ((rowN n f).map V.int)) → Same H H' → Q (.ref p) H'
def partsOf (k : Bool) : Nest → List Nest
  | .knot k' ps => if k' = k then ps else [.knot k' ps]
  | n => [n]
def spJoin (K : PySem.W.Frag) : Sp := fun vs H Q _ => ∃ (k : Bool) (x y : V) (m n : Nest), vs = [.str (kS k), x, y] ∧ NestAt K H m x ∧ NestAt K H n y ∧ valid none m = true ∧ valid none n = true ∧ words m + words n ≤ 900 ∧ ∀ (v : V) (H' : Hp), NestAt K H' (.knot k (partsOf k m ++ partsOf k n)) v → Same H H' → Q v H'
theorem valid_some {k : Bool} : ∀ {n : Nest}, valid none n = true → (∀ ps, n ≠ .knot k ps) → valid (some k) n = true
  | .word, _, _ => rfl
  | .knot k' ps, h, hn => by
    simp only [valid, Bool.and_eq_true] at h ⊢
    refine ⟨?_, h.2⟩
    have : k' ≠ k := fun e => hn ps (by rw [e])
    simp [this.symm, Ne.symm this]
  | .bad, h, _ => by simp [valid] at h
theorem parts_valid {k : Bool} {n : Nest} (h : valid none n = true) : validL k (partsOf k n) = true ∧ wordsL (partsOf k n) = words n := by
  cases n with
  | word => exact ⟨rfl, rfl⟩
  | bad => simp [valid] at h
  | knot k' ps =>
    unfold partsOf
    by_cases e : k' = k
    · subst e
      dsimp only
      rw [if_pos rfl]
      simp only [valid, Bool.and_eq_true] at h
      exact ⟨h.2, by rw [words]⟩
    · dsimp only
      rw [if_neg e]
      refine ⟨?_, by simp [wordsL]⟩
      simp only [validL, Bool.and_true]
      exact valid_some h fun ps' z => e (by injection z)
def spLNest (K : PySem.W.Frag) : Sp := fun vs H Q _ => ∃ (l : Addr) (cs : List Int), vs = [.ref l] ∧ SqL K H l (cs.map V.int) ∧ cs.length ≤ 100 ∧ ∀ (n : Nest) (v : V) (H' : Hp), NestAt K H' n v → valid none n = true → words n = cs.length + 1 → Same H H' → Q v H'
def spFree (K : PySem.W.Frag) : Sp := fun vs H Q _ => ∃ (l : Addr) (cs : List Int), vs = [.ref l] ∧ SqL K H l (cs.map V.int) ∧ 1 ≤ cs.length ∧ cs.length ≤ 100 ∧ ∀ (p : Addr) (ord : List Int) (H' : Hp), H p = none → H' p = some (.lst (ord.map V.int)) → IsOrd ord → ord.length = cs.length → Same H H' → Q (.ref p) H'
def spLOrd (K : PySem.W.Frag) : Sp := fun vs H Q _ => ∃ (a : Addr) (ns : List Int), vs = [.ref a] ∧ SqL K H a (ns.map V.int) ∧ ns.length ≤ 63 ∧ ∀ (p : Addr) (ord : List Int) (H' : Hp), H p = none → H' p = some (.tup (ord.map V.int)) → IsOrd ord → 1 ≤ ord.length → ord.length ≤ 60 → Same H H' → Q (.ref p) H'
def LstsAt (H : Hp) (ps : List Addr) (xss : List (List Int)) : Prop := Paired (fun p xs => H p = some (.lst (xs.map V.int))) ps xss
theorem LstsAt.len {H : Hp} : ∀ {ps : List Addr} {xss : List (List Int)}, LstsAt H ps xss → ps.length = xss.length
  | _, _, .nil => rfl
  | _, _, .cons _ t => congrArg (· + 1) (LstsAt.len t)
theorem LstsAt.get {H : Hp} : ∀ {ps : List Addr} {xss : List (List Int)} {i : Nat} {p : Addr}, LstsAt H ps xss → ps[i]? = some p → ∃ xs, xss[i]? = some xs ∧ H p = some (.lst (xs.map V.int))
  | _, _, _, _, .nil, e => by simp at e
  | _, _, 0, _, .cons h _, e => by simp at e; subst e; exact ⟨_, rfl, h⟩
  | _, _, i + 1, p, .cons _ t, e => by
    obtain ⟨x, h1, h2⟩ := LstsAt.get (i := i) (p := p) t (by simpa using e)
    exact ⟨x, by simpa using h1, h2⟩
theorem LstsAt.mono {H H' : Hp} (s : Same H H') : ∀ {ps : List Addr} {xss : List (List Int)}, LstsAt H ps xss → LstsAt H' ps xss
  | _, _, .nil => .nil
  | _, _, .cons h t => .cons (s _ _ h) (LstsAt.mono s t)
theorem LstsAt.upd {H : Hp} {l : Addr} {o : HO} : ∀ {ps : List Addr} {xss : List (List Int)}, l ∉ ps → LstsAt H ps xss → LstsAt (L2.upd H l o) ps xss
  | _, _, _, .nil => .nil
  | p :: _, _ :: _, hn, .cons h t => .cons (by rw [upd_ne (fun z => hn (by rw [← z]; exact List.mem_cons_self))]; exact h) (LstsAt.upd (fun z => hn (List.mem_cons_of_mem _ z)) t)
theorem LstsAt.app {H : Hp} : ∀ {ps qs : List Addr} {xss yss : List (List Int)}, LstsAt H ps xss → LstsAt H qs yss → LstsAt H (ps ++ qs) (xss ++ yss)
  | _, _, _, _, .nil, h => h
  | _, _, _, _, .cons a t, h => .cons a (LstsAt.app t h)
theorem LstsAt.rev {H : Hp} : ∀ {ps : List Addr} {xss : List (List Int)}, LstsAt H ps xss → LstsAt H ps.reverse xss.reverse
  | _, _, .nil => .nil
  | _, _, .cons a t => by
    rw [List.reverse_cons, List.reverse_cons]
    exact LstsAt.app (LstsAt.rev t) (.cons a .nil)
theorem wordsL_at : ∀ {ps : List Nest} {i : Nat} {n : Nest}, ps[i]? = some n → words n ≤ wordsL ps
  | [], _, _, h => by simp at h
  | m :: r, 0, n, h => by simp at h; subst h; rw [wordsL]; omega
  | m :: r, i + 1, n, h => by have := wordsL_at (ps := r) (i := i) (n := n) (by simpa using h); rw [wordsL]; omega
def natV (l : List Nat) : List V := l.map fun (n : Nat) => V.int (n : Int)
def cutF (ord : List Int) : Str × List Nat := if risF ord = [] then (if falF ord = [] then ("", []) else ("-", falF ord)) else ("+", risF ord)
def CutAt (H : Hp) (c : Str × List Nat) (t p : Addr) : Prop := H t = some (.tup [.str c.1, .ref p]) ∧ H p = some (.tup (natV c.2))
def spCuts (K : PySem.W.Frag) : Sp := fun vs H Q _ => ∃ (o : Addr) (ord : List Int), vs = [.ref o] ∧ SqT K H o (ord.map V.int) ∧ IsOrd ord ∧ 1 ≤ ord.length ∧ ord.length ≤ 1000 ∧ ∀ (t p : Addr) (H' : Hp), H t = none → H p = none → CutAt H' (cutF ord) t p → Same H H' → Q (.ref t) H'
def spTold21 (K : PySem.W.Frag) : Sp := fun vs H Q _ => ∃ (o : Addr) (ord : List Int), vs = [.ref o] ∧ SqT K H o (ord.map V.int) ∧ IsOrd ord ∧ 1 ≤ ord.length ∧ ord.length ≤ 1000 ∧ ∀ H', Same H H' → Q (.bl true) H'
end Tn
namespace Tn
open PySem PySem.Spec PyProof.Rows
theorem nz {n : Nat} (i j : Nat) (h : (i == j) = false := by decide) : n + i ≠ n + j := fun z => by
  have : i = j := by omega
  rw [this] at h
  simp at h
section
variable {prog : Program} {w : World} {A : Around} {E : Value → Shared → Prop} {s : Shared} {n : Nat} {t1 t2 : Addr} {k : Nat} {xs ys : Array Value} {x y a b : Value}
theorem zipT_end {Q : Fin → Shared → Prop} (hh : A.handled = none) (d1 : t1 ≠ n + 4) (hz : IsZip s.heap (n + 4) (n + 2) (n + 3) .none) (hTI : IsPair s.heap (n + 2) (.ref (n + 0)) (.ref (n + 1)))
    (h1 : s.heap.IsTupleIter (n + 0) t1 k) (p1 : s.heap.IsTuple t1 xs) (hx : xs[k]? = none)
    (hE : ∀ h' e, (∀ c o, c ≠ n + 4 → c ≠ n + 0 → s.heap.get? c = some o → h'.get? c = some o) → (∃ o, h'.get? e = some o ∧ o.cls = .type "StopIteration") → E (.ref e) { s with heap := h' }) :
    wpAny (model prog w) A (Builtin.«zip.__next__» ⟨[.ref (n + 4)], []⟩) Q E s := by
  show wpAny _ _ (field (.ref (n + 4)) 2 >>= _) _ _ _
  refine wpAny_bind (wpAny_field hz rfl (x := .bool false) rfl ?_)
  show wpAny _ _ (field (.ref (n + 4)) 3 >>= _) _ _ _
  refine wpAny_bind (wpAny_field hz rfl (x := .ref (n + 2)) rfl ?_)
  refine wpAny_bind (wpAny_seqItems hTI rfl ?_)
  show wpAny _ _ (Builtin.SmallTypes.ownedTupleIsFree (.ref (n + 4)) >>= _) _ _ _
  refine wpAny_bind ?_
  unfold Builtin.SmallTypes.ownedTupleIsFree
  refine wpAny_bind (wpAny_field hz rfl (x := .none) rfl (wpAny_pure ?_))
  simp only [if_true]
  refine wpAny_bind (wpAny_rule ?_)
  refine wpAny_bind (wpAny_field hz rfl (x := .ref (n + 3)) rfl ?_)
  refine wpAny_bind (wpAny_setField_rec hz (by simp) fun g1 z1 s1 => ?_)
  replace z1 : IsZip g1 (n + 4) (n + 2) (n + 3) .ellipsis := z1
  refine wpAny_bind ?_
  simp only [List.zipIdx_cons, List.zipIdx_nil, List.forIn_cons, List.forIn_nil]
  refine wpAny_bind (wpAny_bind (wpAny_onRaise ?_))
  show wpAny _ _ (Builtin.SmallTypes.nextOf (.ref (n + 0)) >>= _) _ _ _
  refine wpAny_bind (nextT_end hh (tupIter_at h1 fun o e => s1.extBut _ _ (nz 0 4) e) (tup_at p1 fun o e => s1.extBut _ _ d1 e) hx fun g2 e s2 he => ?_)
  obtain ⟨oe, hoe, hce⟩ := he
  have z2 : IsZip g2 (n + 4) (n + 2) (n + 3) .ellipsis := s2 _ _ (nz 4 0) z1
  have hez : e ≠ n + 4 := fun u => by subst u; rw [z2] at hoe; cases hoe; simp at hce
  exact wpAny_setField_rec z2 (by simp) fun g3 _ s3 => hE g3 e (fun c o c4 c0 u => s3.extBut _ _ c4 (s2 _ _ c0 (s1.extBut _ _ c4 u))) ⟨oe, s3.extBut _ _ hez hoe, hce⟩
theorem nextZ_end {Q : Option Value → Shared → Prop} (hh : A.handled = none) (d1 : t1 ≠ n + 4) (hz : IsZip s.heap (n + 4) (n + 2) (n + 3) .none) (hTI : IsPair s.heap (n + 2) (.ref (n + 0)) (.ref (n + 1)))
    (h1 : s.heap.IsTupleIter (n + 0) t1 k) (p1 : s.heap.IsTuple t1 xs) (hx : xs[k]? = none)
    (hQ : ∀ h', (∀ c o, c ≠ n + 4 → c ≠ n + 0 → s.heap.get? c = some o → h'.get? c = some o) → Q none { s with heap := h' }) : wpAny (model prog w) A (pyNext (.ref (n + 4))) Q E s := by
  have hT : s.TypeIs (.ref (n + 4)) "zip" := ⟨_, hz, rfl⟩
  unfold pyNext
  refine wpAny_bind (wpAny_attempt (wpAny_callSpecial?_slot (name := Str.ofString "__next__") hT F.slot_zip_next
    (wpAny_call_entry F.slot_zip_next hT F.entry_zip_next (zipT_end hh d1 hz hTI h1 p1 hx fun h' e hk he => ?_) (F.args_zip_next_1 _))))
  obtain ⟨o, ho, hc⟩ := he
  refine wpAny_bind (wpAny_isInstance (T := "StopIteration") (b := true) ⟨o, ho, hc⟩ isSubtype_stop ?_)
  exact wpAny_pure (hQ _ hk)
end
def zA (h : Heap) (t1 : Addr) : Heap := h.push { cls := .type "tuple_iterator", data := .fields #[.ref t1, .int 0 0] }
def zB (h : Heap) (t1 t2 : Addr) : Heap := (zA h t1).push { cls := .type "tuple_iterator", data := .fields #[.ref t2, .int 0 0] }
def zC (h : Heap) (t1 t2 : Addr) : Heap := ((zB h t1 t2).push { cls := .type "tuple", data := .seq #[.ref h.objs.size, .ref (zA h t1).objs.size] }).push { cls := .type "tuple", data := .seq #[.none, .none] }
end Tn
namespace L2
open PySem PySem.Spec PyProof.Rows
def Itz (a b : Addr) : It :=
  ⟨fun i H => ∃ xs ys x y, H a = some (.tup xs) ∧ H b = some (.tup ys) ∧ xs[i]? = some x ∧ ys[i]? = some y,
   fun i H v H' => ∃ p x y, H p = none ∧ v = .ref p ∧ (∀ xs, H a = some (.tup xs) → xs[i]? = some x) ∧ (∀ ys, H b = some (.tup ys) → ys[i]? = some y) ∧ H' = upd H p (.tup [x, y]),
   fun i H => ∃ xs ys, H a = some (.tup xs) ∧ H b = some (.tup ys) ∧ xs.length = i⟩
section
variable {X : Cx}
theorem Inv.turned2 {h' : Heap} {pins : List (Addr × Obj)} {σ : St} {H : Hp} {s : Shared} {t' : Nat} {i j : Addr} (I : Inv X pins σ H s) (k : ∀ b o, b ≠ i → b ≠ j → s.heap.get? b = some o → h'.get? b = some o) (fi : FpOk X pins H i) (fj : FpOk X pins H j) : Inv X pins σ H { s with heap := h', toks := t' } := by
  have nit : ∀ b u, H b = some u → b ≠ i ∧ b ≠ j := fun b u e => ⟨(fun z => by rw [z, fi.1] at e; cases e), (fun z => by rw [z, fj.1] at e; cases e)⟩
  have inch : ∀ c, c ∉ [i, j] → c ≠ i ∧ c ≠ j := fun c hc => ⟨fun z => hc (by simp [z]), fun z => hc (by simp [z])⟩
  refine I.step (g' := s.gens) (d' := s.drawn) (ch := [i, j]) (fun b hb => ?_) (fun b o _ _ hc e _ => k b o (inch b hc).1 (inch b hc).2 e) (fun b o _ _ hc e _ => ⟨o.slots, k b o (inch b hc).1 (inch b hc).2 e⟩) (fun _ _ _ _ n => n)
    (fun b o hc e => ⟨o, k b o (inch b hc).1 (inch b hc).2 e⟩) (fun _ _ e => e) (fun _ _ _ e => e) (fun b ps e => ⟨#[], by rw [e]; simp⟩) (fun m hm => ?_) (fun b u e => ?_) I.bare
  · rcases List.mem_cons.mp hb with z | z
    · rw [z]; exact ⟨fi.2.2.2.1, fi.2.1, fi.2.2.2.2.1, fi.2.2.2.2.2⟩
    · rw [List.mem_singleton.mp z]; exact ⟨fj.2.2.2.1, fj.2.1, fj.2.2.2.2.1, fj.2.2.2.2.2⟩
  · obtain ⟨o, es, ep, ho, r⟩ := hm
    exact ⟨o, es, ep, k _ o (Ne.symm fi.2.1) (Ne.symm fj.2.1) ho, r⟩
  · refine (I.hok b u e).stay (fun c v hc q => ?_) (fun _ q => q) fun _ _ q => q
    have hcc : c ≠ i ∧ c ≠ j := by
      rcases hc with z | z
      · rw [z]; exact nit b u e
      · exact nit c _ z
    exact k c v hcc.1 hcc.2 q
def iZip (ta : TA) : TI := fun σ H R => ta σ H fun vs H1 => ∃ a b xs ys, vs = [.ref a, .ref b] ∧ H1 a = some (.tup xs) ∧ H1 b = some (.tup ys) ∧ R (Itz a b) H1
end
end L2
namespace Tn
open PySem PySem.Spec PyProof PyProof.Rows
section
variable {prog : Program} {w : World} {A : Around} {E : Value → Shared → Prop} {s : Shared}
theorem nextL_item {it tp : Addr} {k : Nat} {xs : Array Value} {v : Value} {Q : Value → Shared → Prop} (p1 : s.heap.IsListIter it tp k) (p2 : s.heap.IsList tp xs) (hv : xs[k]? = some v)
    (hQ : ∀ g, g.IsListIter it tp (k + 1) → Heap.SameBut it s.heap g → Q v { s with heap := g }) : wpAny (model prog w) A (Builtin.SmallTypes.nextOf (.ref it)) Q E s := by
  obtain ⟨o1, g1, c1, d1⟩ := id p1
  obtain ⟨o2, g2, _, n2, d2⟩ := p2
  unfold Builtin.SmallTypes.nextOf
  refine wpAny_bind (wpAny_callSpecial?_slot (name := Str.ofString "__next__") p1.typeIs slot_listiter_next (wpAny_call_entry slot_listiter_next p1.typeIs entry_listiter_next ?_ (args_listiter_next _)))
  show wpAny _ _ (field (.ref it) 0 >>= _) _ _ _
  refine wpAny_bind (wpAny_field g1 d1 (x := .ref tp) rfl ?_)
  show wpAny _ _ (if (Value.ref tp == Value.none) = true then _ else _) _ _ _
  rw [if_neg (show ¬ ((Value.ref tp == Value.none) = true) from Bool.false_ne_true)]
  show wpAny _ _ (field (.ref it) 1 >>= _) _ _ _
  refine wpAny_bind (wpAny_field g1 d1 (x := .int k 0) rfl ?_)
  show wpAny _ _ (seqItems? (.ref tp) >>= _) _ _ _
  refine wpAny_bind (wpAny_seqItems g2 d2 ?_)
  simp only [Int.toNat_natCast, hv]
  refine wpAny_bind (wpAny_setField g1 d1 (by simp) (wpAny_pure ⟨v, rfl, wpAny_pure (hQ _ ?_ (Heap.SameBut.update ..))⟩))
  exact ⟨_, Heap.get?_update_self _ g1 (Obj.isFreed_of_fields (Obj.data_mapFields d1 _)), (Obj.cls_mapFields ..).trans c1, by
      rw [Obj.data_mapFields d1]; simp [rawInt]⟩
end
section
variable {prog : Program} {w : World} {A : Around} {E : Value → Shared → Prop} {s : Shared} {n : Nat} {t1 t2 : Addr} {k : Nat} {xs ys : Array Value} {x y a b : Value}
theorem zipL_item {Q : Value → Shared → Prop} (d1 : t1 ≠ n + 4) (d2 : t2 ≠ n + 4 ∧ t2 ≠ n + 3 ∧ t2 ≠ n + 0) (hz : IsZip s.heap (n + 4) (n + 2) (n + 3) .none) (hTI : IsPair s.heap (n + 2) (.ref (n + 0)) (.ref (n + 1))) (hTO : IsPair s.heap (n + 3) a b)
    (h1 : s.heap.IsTupleIter (n + 0) t1 k) (h2 : s.heap.IsListIter (n + 1) t2 k) (p1 : s.heap.IsTuple t1 xs) (p2 : s.heap.IsList t2 ys) (hx : xs[k]? = some x) (hy : ys[k]? = some y)
    (hQ : ∀ h', IsZip h' (n + 4) (n + 2) (n + 3) (rawInt s.heap.objs.size) → IsPair h' (n + 3) x y → h'.IsTupleIter (n + 0) t1 (k + 1) → h'.IsListIter (n + 1) t2 (k + 1) → IsPair h' s.heap.objs.size x y →
      (∀ c o, c ≠ n + 4 → c ≠ n + 3 → c ≠ n + 0 → c ≠ n + 1 → s.heap.get? c = some o → h'.get? c = some o) → Q (.ref s.heap.objs.size) { s with heap := h' }) :
    wpAny (model prog w) A (Builtin.«zip.__next__» ⟨[.ref (n + 4)], []⟩) (fun fin s' => ∃ v, fin = .done (.ret v) ∧ Q v s') E s := by
  show wpAny _ _ (field (.ref (n + 4)) 2 >>= _) _ _ _
  refine wpAny_bind (wpAny_field hz rfl (x := .bool false) rfl ?_)
  show wpAny _ _ (field (.ref (n + 4)) 3 >>= _) _ _ _
  refine wpAny_bind (wpAny_field hz rfl (x := .ref (n + 2)) rfl ?_)
  refine wpAny_bind (wpAny_seqItems hTI rfl ?_)
  show wpAny _ _ (Builtin.SmallTypes.ownedTupleIsFree (.ref (n + 4)) >>= _) _ _ _
  refine wpAny_bind ?_
  unfold Builtin.SmallTypes.ownedTupleIsFree
  refine wpAny_bind (wpAny_field hz rfl (x := .none) rfl (wpAny_pure ?_))
  simp only [if_true]
  refine wpAny_bind (wpAny_rule ?_)
  refine wpAny_bind (wpAny_field hz rfl (x := .ref (n + 3)) rfl ?_)
  refine wpAny_bind (wpAny_setField_rec hz (by simp) fun g1 z1 s1 => ?_)
  replace z1 : IsZip g1 (n + 4) (n + 2) (n + 3) .ellipsis := z1
  refine wpAny_bind ?_
  simp only [List.zipIdx_cons, List.zipIdx_nil, List.forIn_cons, List.forIn_nil]
  refine wpAny_bind (wpAny_bind (wpAny_onRaise ?_))
  show wpAny _ _ (Builtin.SmallTypes.nextOf (.ref (n + 0)) >>= _) _ _ _
  refine wpAny_bind (nextT_item (tupIter_at h1 fun o e => s1.extBut _ _ (nz 0 4) e) (tup_at p1 fun o e => s1.extBut _ _ d1 e) hx fun g2 i2 s2 => wpAny_pure ?_)
  have o2 : IsPair g2 (n + 3) a b := s2.extBut _ _ (nz 3 0) (s1.extBut _ _ (nz 3 4) hTO)
  refine wpAny_bind (wpAny_seqItems o2 rfl ?_)
  refine wpAny_bind (wpAny_updateSeq_pair o2 fun g3 o3 s3 => ?_)
  replace o3 : IsPair g3 (n + 3) x b := o3
  refine wpAny_bind (wpAny_letGo (wpAny_pure ?_))
  refine wpAny_bind (wpAny_bind (wpAny_onRaise ?_))
  show wpAny _ _ (Builtin.SmallTypes.nextOf (.ref (n + 1)) >>= _) _ _ _
  have up3 : ∀ c o, c ≠ n + 4 → c ≠ n + 3 → c ≠ n + 0 → s.heap.get? c = some o → g3.get? c = some o := fun c o c4 c3 c0 e => s3.extBut _ _ c3 (s2.extBut _ _ c0 (s1.extBut _ _ c4 e))
  refine wpAny_bind (nextL_item (tupIter_atL h2 fun o e => up3 _ o (nz 1 4) (nz 1 3) (nz 1 0) e) (tup_atL p2 fun o e => up3 _ o d2.1 d2.2.1 d2.2.2 e) hy fun g4 i4 s4 => wpAny_pure ?_)
  have o4 : IsPair g4 (n + 3) x b := s4.extBut _ _ (nz 3 1) o3
  refine wpAny_bind (wpAny_seqItems o4 rfl ?_)
  refine wpAny_bind (wpAny_updateSeq_pair o4 fun g5 o5 s5 => ?_)
  replace o5 : IsPair g5 (n + 3) x y := o5
  refine wpAny_bind (wpAny_letGo (wpAny_pure (wpAny_pure ?_)))
  refine wpAny_bind (wpAny_seqItems o5 rfl ?_)
  refine wpAny_bind (wpAny_newTuple ?_)
  have hsz : g5.objs.size = s.heap.objs.size := by rw [s5.1, s4.1, s3.1, s2.1, s1.1]
  have z5 : IsZip g5 (n + 4) (n + 2) (n + 3) .ellipsis := s5.extBut _ _ (nz 4 3) (s4.extBut _ _ (nz 4 1) (s3.extBut _ _ (nz 4 3) (s2.extBut _ _ (nz 4 0) z1)))
  have up5 : ∀ c o, c ≠ n + 4 → c ≠ n + 3 → c ≠ n + 0 → c ≠ n + 1 → s.heap.get? c = some o → g5.get? c = some o := fun c o c4 c3 c0 c1 e => s5.extBut _ _ c3 (s4.extBut _ _ c1 (up3 c o c4 c3 c0 e))
  have i5 : g5.IsTupleIter (n + 0) t1 (k + 1) := tupIter_at i2 fun o e => s5.extBut _ _ (nz 0 3) (s4.extBut _ _ (nz 0 1) (s3.extBut _ _ (nz 0 3) e))
  have j5 : g5.IsListIter (n + 1) t2 (k + 1) := tupIter_atL i4 fun o e => s5.extBut _ _ (nz 1 3) e
  have zlt : n + 4 < g5.objs.size := Heap.lt_size z5
  show wpAny _ _ (Builtin.SmallTypes.ownedTupleHandOut (.ref (n + 4)) (.ref g5.objs.size) >>= _) _ _ _
  refine wpAny_bind ?_
  unfold Builtin.SmallTypes.ownedTupleHandOut
  have z6 : IsZip (g5.push { cls := .type "tuple", data := .seq #[x, y] }) (n + 4) (n + 2) (n + 3) .ellipsis := Heap.get?_push_of_some _ z5
  refine wpAny_bind (wpAny_setField_rec z6 (by simp) fun g7 z7 s7 => ?_)
  replace z7 : IsZip g7 (n + 4) (n + 2) (n + 3) (rawInt g5.objs.size) := z7
  refine wpAny_setField_rec z7 (by simp) fun g8 z8 s8 => ?_
  replace z8 : IsZip g8 (n + 4) (n + 2) (n + 3) (rawInt g5.objs.size) := z8
  have up8 : ∀ c o, c ≠ n + 4 → g5.get? c = some o → g8.get? c = some o := fun c o c4 e => s8.extBut _ _ c4 (s7.extBut _ _ c4 (Heap.get?_push_of_some _ e))
  have t8 : IsPair g8 g5.objs.size x y := s8.extBut _ _ (Nat.ne_of_gt zlt) (s7.extBut _ _ (Nat.ne_of_gt zlt) (Heap.get?_push_size _ rfl))
  rw [hsz] at z8 t8
  refine wpAny_pure ⟨_, rfl, ?_⟩
  show Q (.ref g5.objs.size) _
  rw [hsz]
  exact hQ g8 z8 (up8 _ _ (nz 3 4) o5) (tupIter_at i5 fun o e => up8 _ o (nz 0 4) e) (tupIter_atL j5 fun o e => up8 _ o (nz 1 4) e) t8 fun c o c4 c3 c0 c1 e => up8 c o c4 (up5 c o c4 c3 c0 c1 e)
theorem nextZL_item {Q : Option Value → Shared → Prop} (d1 : t1 ≠ n + 4) (d2 : t2 ≠ n + 4 ∧ t2 ≠ n + 3 ∧ t2 ≠ n + 0) (hz : IsZip s.heap (n + 4) (n + 2) (n + 3) .none) (hTI : IsPair s.heap (n + 2) (.ref (n + 0)) (.ref (n + 1))) (hTO : IsPair s.heap (n + 3) a b)
    (h1 : s.heap.IsTupleIter (n + 0) t1 k) (h2 : s.heap.IsListIter (n + 1) t2 k) (p1 : s.heap.IsTuple t1 xs) (p2 : s.heap.IsList t2 ys) (hx : xs[k]? = some x) (hy : ys[k]? = some y)
    (hQ : ∀ h', IsZip h' (n + 4) (n + 2) (n + 3) (rawInt s.heap.objs.size) → IsPair h' (n + 3) x y → h'.IsTupleIter (n + 0) t1 (k + 1) → h'.IsListIter (n + 1) t2 (k + 1) → IsPair h' s.heap.objs.size x y →
      (∀ c o, c ≠ n + 4 → c ≠ n + 3 → c ≠ n + 0 → c ≠ n + 1 → s.heap.get? c = some o → h'.get? c = some o) → Q (some (.ref s.heap.objs.size)) { s with heap := h' }) :
    wpAny (model prog w) A (pyNext (.ref (n + 4))) Q E s := by
  have hT : s.TypeIs (.ref (n + 4)) "zip" := ⟨_, hz, rfl⟩
  unfold pyNext
  exact wpAny_bind (wpAny_attempt (wpAny_callSpecial?_slot (name := Str.ofString "__next__") hT F.slot_zip_next
    (wpAny_call_entry F.slot_zip_next hT F.entry_zip_next (zipL_item d1 d2 hz hTI hTO h1 h2 p1 p2 hx hy fun h' a1 a2 a3 a4 a5 a6 => wpAny_pure (hQ h' a1 a2 a3 a4 a5 a6)) (F.args_zip_next_1 _))))
end
def zBL (h : Heap) (t1 t2 : Addr) : Heap := (zA h t1).push { cls := .type "list_iterator", data := .fields #[.ref t2, .int 0 0] }
def zCL (h : Heap) (t1 t2 : Addr) : Heap := ((zBL h t1 t2).push { cls := .type "tuple", data := .seq #[.ref h.objs.size, .ref (zA h t1).objs.size] }).push { cls := .type "tuple", data := .seq #[.none, .none] }
theorem zipL_new (t1 t2 : Addr) (xs ys : Array Value) :
    Meets (Builtin.«zip.__new__» ⟨[.type "zip", .ref t1, .ref t2], []⟩) (fun _ R s => s.heap.IsTuple t1 xs ∧ s.heap.IsList t2 ys ∧
      R (.ok (.ret (.ref (zCL s.heap t1 t2).objs.size))) { s with heap := (zCL s.heap t1 t2).push { cls := .type "zip", data := .fields #[.none, .bool false, .bool false, .ref (zBL s.heap t1 t2).objs.size, .ref ((zBL s.heap t1 t2).push { cls := .type "tuple", data := .seq #[.ref s.heap.objs.size, .ref (zA s.heap t1).objs.size] }).objs.size] } }) :=
  .of_wp fun prog w A R s h => by
    obtain ⟨hp, g, d, tk, os⟩ := s; obtain ⟨hl1, hl2, h⟩ := h
    have hsub := sub_zip
    have hL1 : Heap.IsTuple (Shared.heap ⟨hp, g, d, tk, os⟩) t1 xs := hl1
    have hL2 : Heap.IsList (Shared.heap ⟨hp.push { cls := .type "tuple_iterator", data := .fields #[.ref t1, .int 0 0] }, g, d, tk, os⟩) t2 ys := tup_atL hl2 fun o e => Heap.get?_push_of_some _ e
    wp_walk using wpAny_pyIter_tuple hL1, wpAny_pyIter_list hL2
    exact ⟨_, rfl, h⟩
theorem call_zipL {prog : Program} {w : World} {A : Around} {E : Value → Shared → Prop} {s : Shared} {t1 t2 : Addr} {xs ys : Array Value} {Q : Value → Shared → Prop} (hl1 : s.heap.IsTuple t1 xs) (hl2 : s.heap.IsList t2 ys)
    (h : ∀ h', IsZip h' (s.heap.objs.size + 4) (s.heap.objs.size + 2) (s.heap.objs.size + 3) .none → IsPair h' (s.heap.objs.size + 2) (.ref (s.heap.objs.size + 0)) (.ref (s.heap.objs.size + 1)) →
      IsPair h' (s.heap.objs.size + 3) .none .none → h'.IsTupleIter (s.heap.objs.size + 0) t1 0 → h'.IsListIter (s.heap.objs.size + 1) t2 0 →
      (∀ c o, s.heap.get? c = some o → h'.get? c = some o) → Q (.ref (s.heap.objs.size + 4)) { s with heap := h' }) :
    wpAny (model prog w) A (call (.type "zip") [.ref t1, .ref t2]) Q E s := by
  refine callType_new F.called_zip (by decide) (F.typeCall_zip_2 _ _) (F.newCall_zip_2 _ _) (fun obj => F.args_object_init_3 obj _ _) F.entry_zip_new (zipL_new t1 t2 xs ys) ⟨hl1, hl2, ?_⟩
  have a1 : (zA s.heap t1).objs.size = s.heap.objs.size + 1 := Heap.size_push ..
  have a2 : (zBL s.heap t1 t2).objs.size = s.heap.objs.size + 2 := by unfold zBL; rw [Heap.size_push, a1]
  have a3 : ((zBL s.heap t1 t2).push { cls := .type "tuple", data := .seq #[.ref s.heap.objs.size, .ref (zA s.heap t1).objs.size] }).objs.size = s.heap.objs.size + 3 := by rw [Heap.size_push, a2]
  have a4 : (zCL s.heap t1 t2).objs.size = s.heap.objs.size + 4 := by unfold zCL; rw [Heap.size_push, a3]
  show _ ∧ _
  rw [a3, a2, a4]
  have k4 : ∀ c o, (zCL s.heap t1 t2).get? c = some o → ((zCL s.heap t1 t2).push { cls := .type "zip", data := .fields #[.none, .bool false, .bool false, .ref (s.heap.objs.size + 2), .ref (s.heap.objs.size + 3)] }).get? c = some o := fun c o e => Heap.get?_push_of_some _ e
  have k2 : ∀ c o, (zBL s.heap t1 t2).get? c = some o → (zCL s.heap t1 t2).get? c = some o := fun c o e => Heap.get?_push_of_some _ (Heap.get?_push_of_some _ e)
  have k1 : ∀ c o, (zA s.heap t1).get? c = some o → (zBL s.heap t1 t2).get? c = some o := fun c o e => Heap.get?_push_of_some _ e
  have g1 : (zA s.heap t1).get? s.heap.objs.size = some { cls := .type "tuple_iterator", data := .fields #[.ref t1, .int 0 0] } := Heap.get?_push_size _ rfl
  have g2 : (zBL s.heap t1 t2).get? (zA s.heap t1).objs.size = some { cls := .type "list_iterator", data := .fields #[.ref t2, .int 0 0] } := Heap.get?_push_size _ rfl
  have g3 : (zCL s.heap t1 t2).get? (zBL s.heap t1 t2).objs.size = some { cls := .type "tuple", data := .seq #[.ref s.heap.objs.size, .ref (zA s.heap t1).objs.size] } := Heap.get?_push_of_some _ (Heap.get?_push_size _ rfl)
  have g4 : (zCL s.heap t1 t2).get? ((zBL s.heap t1 t2).push { cls := .type "tuple", data := .seq #[.ref s.heap.objs.size, .ref (zA s.heap t1).objs.size] }).objs.size = some { cls := .type "tuple", data := .seq #[.none, .none] } := Heap.get?_push_size _ rfl
  have g5 : ((zCL s.heap t1 t2).push { cls := .type "zip", data := .fields #[.none, .bool false, .bool false, .ref (s.heap.objs.size + 2), .ref (s.heap.objs.size + 3)] }).get? (zCL s.heap t1 t2).objs.size = some { cls := .type "zip", data := .fields #[.none, .bool false, .bool false, .ref (s.heap.objs.size + 2), .ref (s.heap.objs.size + 3)] } := Heap.get?_push_size _ rfl
  rw [a4] at g5
  rw [a3] at g4
  rw [a2, a1] at g3
  rw [a1] at g2
  exact ⟨⟨_, g5, rfl⟩, h _ g5 (k4 _ _ g3) (k4 _ _ g4) ⟨_, k4 _ _ (k2 _ _ (k1 _ _ g1)), rfl, rfl⟩ ⟨_, k4 _ _ (k2 _ _ g2), rfl, rfl⟩ fun c o e => k4 _ _ (k2 _ _ (k1 _ _ (Heap.get?_push_of_some _ e)))⟩
end Tn
namespace L2
open PySem PySem.Spec PyProof.Rows
def Itzl (a b : Addr) : It :=
  ⟨fun i H => ∃ xs ys x y, H a = some (.tup xs) ∧ H b = some (.lst ys) ∧ xs[i]? = some x ∧ ys[i]? = some y,
   fun i H v H' => ∃ p x y, H p = none ∧ v = .ref p ∧ (∀ xs, H a = some (.tup xs) → xs[i]? = some x) ∧ (∀ ys, H b = some (.lst ys) → ys[i]? = some y) ∧ H' = upd H p (.tup [x, y]),
   fun i H => ∃ xs ys, H a = some (.tup xs) ∧ H b = some (.lst ys) ∧ xs.length = i⟩
section
variable {X : Cx}
theorem turn_zipL {P : Program} {w : World} {K : PySem.W.Frag} {elts : List Expr} {k : Nat} {tp : Pos} (a b : Addr) (n : Nat) :
    Turn P w K (.Tuple elts k tp) (Itzl a b) [n + 4, n + 2, n + 3, n + 0, n + 1] (n + 4) (fun i h => IsZip h (n + 4) (n + 2) (n + 3) .none ∧ IsPair h (n + 2) (.ref (n + 0)) (.ref (n + 1)) ∧ (∃ u v, IsPair h (n + 3) u v) ∧ h.IsTupleIter (n + 0) a i ∧ h.IsListIter (n + 1) b i) where
  mem := List.mem_cons_self
  obj := fun i h st c hc => by
    obtain ⟨hz, hTI, ⟨u, v, hTO⟩, ⟨o1, q1, _, d1⟩, ⟨o2, q2, _, d2⟩⟩ := st
    rcases List.mem_cons.mp hc with z | hc
    · subst z
      exact ⟨_, hz, fun v z => by
        have z' : Data.fields _ = Data.cell v := z
        cases z'⟩
    rcases List.mem_cons.mp hc with z | hc
    · subst z
      exact ⟨_, hTI, fun v z => by
        have z' : Data.seq _ _ = Data.cell v := z
        cases z'⟩
    rcases List.mem_cons.mp hc with z | hc
    · subst z
      exact ⟨_, hTO, fun v z => by
        have z' : Data.seq _ _ = Data.cell v := z
        cases z'⟩
    rcases List.mem_cons.mp hc with z | hc
    · subst z
      exact ⟨o1, q1, fun v z => by rw [d1] at z; cases z⟩
    · rw [List.mem_singleton.mp hc]
      exact ⟨o2, q2, fun v z => by rw [d2] at z; cases z⟩
  keep := fun i h h' st kp => by
    obtain ⟨hz, hTI, ⟨u, v, hTO⟩, h1, h2⟩ := st
    exact ⟨kp _ (by simp) _ hz, kp _ (by simp) _ hTI, ⟨u, v, kp _ (by simp) _ hTO⟩, Tn.tupIter_at h1 fun o q => kp _ (by simp) o q, Tn.tupIter_atL h2 fun o q => kp _ (by simp) o q⟩
  item := by
    intro X hP hw hK hc i pins s σ H E I hf st hg
    subst hP hw hK
    obtain ⟨xs, ys, x, y, ha, hb, hx, hy⟩ := hg
    obtain ⟨its, rv, p1, _⟩ := I.tuple (SqT.of (K := X.K) ha)
    obtain ⟨jts, rw', p2, _⟩ := I.list (SqL.of (K := X.K) hb)
    obtain ⟨u, hu, ru⟩ := rv.get hx
    obtain ⟨v, hv, rv'⟩ := rw'.get hy
    obtain ⟨hz, hTI, ⟨u0, v0, hTO⟩, h1, h2⟩ := st
    have f4 := hf (n + 4) (by simp)
    have f3 := hf (n + 3) (by simp)
    have f2 := hf (n + 2) (by simp)
    have f0 := hf (n + 0) (by simp)
    have f1 := hf (n + 1) (by simp)
    have ne : ∀ c o, H c = some o → c ≠ n + 4 ∧ c ≠ n + 3 ∧ c ≠ n + 0 ∧ c ≠ n + 1 := fun c o z =>
      ⟨(fun q => by rw [q, f4.1] at z; cases z), (fun q => by rw [q, f3.1] at z; cases z), (fun q => by rw [q, f0.1] at z; cases z), (fun q => by rw [q, f1.1] at z; cases z)⟩
    have hnew : H s.heap.objs.size = none := I.hok.fresh (Nat.le_refl _)
    have ea := ne a _ ha
    have eb := ne b _ hb
    refine Tn.nextZL_item ea.1 ⟨eb.1, eb.2.1, eb.2.2.1⟩ hz hTI hTO h1 h2 (show s.heap.IsTuple a its.toArray from p1) p2.isList (x := u) (y := v) (by simpa using hu) (by simpa using hv) fun h' z' o' i1 i2 t' kp => ?_
    refine ⟨_, rfl, wpAny_letOwnedTupleGo_zip (s := { s with heap := h' }) z' fun g zg sg => ?_⟩
    have zlt : n + 4 < s.heap.objs.size := Heap.lt_size hz
    have up : ∀ c o, c ≠ n + 4 → c ≠ n + 3 → c ≠ n + 0 → c ≠ n + 1 → s.heap.get? c = some o → g.get? c = some o := fun c o c4 c3 c0 c1 e => sg.extBut _ _ c4 (kp c o c4 c3 c0 c1 e)
    have tg : g.get? s.heap.objs.size = some { cls := .type "tuple", data := .seq #[u, v] } := sg.extBut _ _ (Nat.ne_of_gt zlt) t'
    have inch : ∀ c, c ∉ [n + 4, n + 3, n + 0, n + 1] → c ≠ n + 4 ∧ c ≠ n + 3 ∧ c ≠ n + 0 ∧ c ≠ n + 1 := fun c hc => ⟨fun z => hc (by simp [z]), fun z => hc (by simp [z]), fun z => hc (by simp [z]), fun z => hc (by simp [z])⟩
    have I1 : Inv X pins σ (upd H s.heap.objs.size (.tup [x, y])) { s with heap := g } := by
      refine I.step (g' := s.gens) (d' := s.drawn) (ch := [n + 4, n + 3, n + 0, n + 1]) (fun c hc => ?_) (fun c o _ _ hc q _ => let ⟨c4, c3, c0, c1⟩ := inch c hc; up c o c4 c3 c0 c1 q)
        (fun c o _ _ hc q _ => let ⟨c4, c3, c0, c1⟩ := inch c hc; ⟨o.slots, up c o c4 c3 c0 c1 q⟩) (fun c o _ q n' => by rw [upd_ne (Nat.ne_of_lt (Heap.lt_size q))]; exact n')
        (fun c o hc q => let ⟨c4, c3, c0, c1⟩ := inch c hc; ⟨o, up c o c4 c3 c0 c1 q⟩) (fun c us q => by rw [upd_ne (ne_of_none q hnew)]; exact q) (fun c o us q => by rw [upd_ne (ne_of_none q hnew)]; exact q)
        (fun c ps q => ⟨#[], by rw [upd_ne (ne_of_none q hnew), q]; simp⟩) (fun m hm => ?_) (fun c oc q => ?_) I.bare
      · rcases List.mem_cons.mp hc with z | hc
        · subst z; exact ⟨f4.2.2.2.1, f4.2.1, f4.2.2.2.2.1, f4.2.2.2.2.2⟩
        rcases List.mem_cons.mp hc with z | hc
        · subst z; exact ⟨f3.2.2.2.1, f3.2.1, f3.2.2.2.2.1, f3.2.2.2.2.2⟩
        rcases List.mem_cons.mp hc with z | hc
        · subst z; exact ⟨f0.2.2.2.1, f0.2.1, f0.2.2.2.2.1, f0.2.2.2.2.2⟩
        · rw [List.mem_singleton.mp hc]; exact ⟨f1.2.2.2.1, f1.2.1, f1.2.2.2.2.1, f1.2.2.2.2.2⟩
      · obtain ⟨o, es, ep, ho, r⟩ := hm
        exact ⟨o, es, ep, up _ o (Ne.symm f4.2.1) (Ne.symm f3.2.1) (Ne.symm f0.2.1) (Ne.symm f1.2.1) ho, r⟩
      · by_cases hcs : c = s.heap.objs.size
        · subst hcs
          rw [upd_same] at q; cases q
          exact ⟨(by show 2 ≤ sizeLine; decide), [u, v], .cons ru (.cons rv' .nil), ⟨_, tg, rfl, ⟨_, rfl⟩, rfl⟩⟩
        · rw [upd_ne hcs] at q
          refine (I.hok c oc q).stay (fun c' v' hc' q' => ?_) (fun c' z => by rw [upd_ne (ne_of_none z hnew)]; exact z) fun c' us z => by rw [upd_ne (ne_of_none z hnew)]; exact z
          obtain ⟨c4, c3, c0, c1⟩ : c' ≠ n + 4 ∧ c' ≠ n + 3 ∧ c' ≠ n + 0 ∧ c' ≠ n + 1 := by
            rcases hc' with z | z
            · subst z; exact ne _ _ q
            · exact ne _ _ z
          exact up c' v' c4 c3 c0 c1 q'
    have iter : ∀ {it t : Addr} {j : Nat}, it ≠ n + 4 → h'.IsTupleIter it t j → g.IsTupleIter it t j := fun hne p => Tn.tupIter_at p fun o q => sg.extBut _ _ hne q
    refine ⟨.ref s.heap.objs.size, _, I1, rfl, ⟨s.heap.objs.size, x, y, hnew, rfl, fun us e => by rw [ha] at e; cases e; exact hx, fun us e => by rw [hb] at e; cases e; exact hy, rfl⟩,
      ⟨zg, up _ _ (Tn.nz 2 4) (Tn.nz 2 3) (Tn.nz 2 0) (Tn.nz 2 1) hTI, ⟨u, v, sg.extBut _ _ (Tn.nz 3 4) o'⟩, iter (Tn.nz 0 4) i1, Tn.tupIter_atL i2 fun o q => sg.extBut _ _ (Tn.nz 1 4) q⟩, fun c hc => ?_⟩
    have hcn : c ≠ s.heap.objs.size := by
      rcases List.mem_cons.mp hc with z | hc
      · subst z; exact Nat.ne_of_lt zlt
      rcases List.mem_cons.mp hc with z | hc
      · subst z; exact Nat.ne_of_lt (Heap.lt_size hTI)
      rcases List.mem_cons.mp hc with z | hc
      · subst z; exact Nat.ne_of_lt (Heap.lt_size hTO)
      rcases List.mem_cons.mp hc with z | hc
      · subst z; exact Nat.ne_of_lt (let ⟨_, e, _⟩ := h1; Heap.lt_size e)
      · rw [List.mem_singleton.mp hc]; exact Nat.ne_of_lt (let ⟨_, e, _⟩ := h2; Heap.lt_size e)
    rw [upd_ne hcn]
    exact (hf c hc).1
  done := by
    intro X hP hw hK hc i pins s σ H E I hf st hg
    subst hP hw hK
    obtain ⟨xs, ys, ha, hb, hl⟩ := hg
    obtain ⟨its, rv, p1, _⟩ := I.tuple (SqT.of (K := X.K) ha)
    obtain ⟨hz, hTI, _, h1, h2⟩ := st
    have hlen := rv.length
    have f4 := hf (n + 4) (by simp)
    have f0 := hf (n + 0) (by simp)
    have ea4 : a ≠ n + 4 := fun q => by rw [q, f4.1] at ha; cases ha
    refine Tn.nextZ_end (I.ok.hd hc) ea4 hz hTI h1 (show s.heap.IsTuple a its.toArray from p1) (by simp; omega) fun h' kp => ⟨rfl, ?_⟩
    refine I.turned2 (t' := s.toks) (fun c o c4 c0 q => kp c o c4 c0 q) f4 f0
  self := fun _ i s Q E st h => wpAny_pyIter_zip st.1 h
def iZipL (ta : TA) : TI := fun σ H R => ta σ H fun vs H1 => ∃ a b xs ys, vs = [.ref a, .ref b] ∧ H1 a = some (.tup xs) ∧ H1 b = some (.lst ys) ∧ R (Itzl a b) H1
theorem pi_zipTL {e e' : Expr} {ta : TA} {p pos tp : Pos} {elts : List Expr} {k : Nat} (hg : Gl X "zip") (hm : X.mg "zip" = none) (ha : PA X [e, e'] ta) (hs : starEach [e, e'] X.env = (false, eval e X.env) :: starEach [e'] X.env := by rfl) (hpl : (backTo pos (starEach [e'] X.env)).any (·.1) = false := by rfl) :
    PI X (.Tuple elts k tp) (.Call (.Name "zip" p) [e, e'] [] pos) (iZipL ta) := by
  intro pins s σ H R I h
  refine Call_ (ld_blt I hg hm (by decide +kernel : bootBuiltins "zip" = some (.type "zip")) (PyProof.Rows.callWith_type1 (thn (ha pos pins s σ H _ I h) fun us s1 ⟨vs, H1, I1, r1, q1⟩ => ?_) hs hpl))
  obtain ⟨a, b, xs, ys, rfl, h1, h2, q⟩ := q1
  obtain ⟨u, u', rfl, rx, ry⟩ := r1.two
  cases rx
  cases ry
  obtain ⟨its, rv, p1, _⟩ := I1.tuple (SqT.of (K := X.K) h1)
  obtain ⟨jts, rw', p2, _⟩ := I1.list (SqL.of (K := X.K) h2)
  refine Tn.call_zipL (show s1.heap.IsTuple a its.toArray from p1) p2.isList fun g hz hTI hTO i1 i2 kp => ?_
  refine wpAny_pyIter_zip (s := { s1 with heap := g }) hz ?_
  have I2 : Inv X pins σ H1 { s1 with heap := g } := I1.kept (t' := s1.toks) kp
  have fr : ∀ b, s1.heap.objs.size ≤ b → FpOk X pins H1 b := fun b hb => I1.fpOk hb (I1.hok.fresh hb)
  refine ⟨_, [s1.heap.objs.size + 4, s1.heap.objs.size + 2, s1.heap.objs.size + 3, s1.heap.objs.size + 0, s1.heap.objs.size + 1], _, Itzl a b, H1, rfl, I2, turn_zipL a b s1.heap.objs.size, ⟨hz, hTI, ⟨_, _, hTO⟩, i1, i2⟩, fun c hc => fr c ?_, q⟩
  rcases List.mem_cons.mp hc with z | hc
  · rw [z]; exact Nat.le_add_right _ _
  rcases List.mem_cons.mp hc with z | hc
  · rw [z]; exact Nat.le_add_right _ _
  rcases List.mem_cons.mp hc with z | hc
  · rw [z]; exact Nat.le_add_right _ _
  rcases List.mem_cons.mp hc with z | hc
  · rw [z]; exact Nat.le_add_right _ _
  · rw [List.mem_singleton.mp hc]; exact Nat.le_add_right _ _
theorem for_zipL {a b : Addr} {xs ys : List V} {g : TG} {tb : TS} {D : Ends} {σ : St} {H : Hp} (hlen : xs.length = ys.length) (Pv : Nat → St → Hp → Prop) (h0 : Pv 0 σ H) (hl : ∀ i σ H, i ≤ xs.length → Pv i σ H → H a = some (.tup xs) ∧ H b = some (.lst ys))
    (hs : ∀ i x y σ H p, xs[i]? = some x → ys[i]? = some y → Pv i σ H → H p = none → g (.ref p) σ (upd H p (.tup [x, y])) fun σ2 H2 => tb { D with nx := Pv (i + 1), ct := Pv (i + 1), bk := D.nx } σ2 H2) (hd : ∀ σ H, Pv xs.length σ H → D.nx σ H) :
    ∃ W : Nat → Nat → St → Hp → Prop, (∃ m, W 0 m σ H) ∧ ∀ i m σ H, W i m σ H →
      ((Itzl a b).stop i H ∧ D.nx σ H) ∨ ((Itzl a b).go i H ∧ ∃ N : St → Hp → Prop, (∀ σ' H', N σ' H' → ∃ m', m' < m ∧ W (i + 1) m' σ' H') ∧ ∀ x H', (Itzl a b).yld i H x H' → g x σ H' fun σ2 H2 => tb { D with nx := N, ct := N, bk := D.nx } σ2 H2) := by
  refine ⟨fun i m σ H => m = xs.length - i ∧ i ≤ xs.length ∧ Pv i σ H, ⟨xs.length, by simp, Nat.zero_le _, h0⟩, ?_⟩
  rintro i m σ H ⟨rfl, hi, p⟩
  obtain ⟨q1, q2⟩ := hl i σ H hi p
  by_cases hlt : i < xs.length
  · refine .inr ⟨⟨xs, ys, xs[i], ys[i]'(by omega), q1, q2, by simp [hlt], by simp [show i < ys.length by omega]⟩, Pv (i + 1), fun σ' H' p' => ⟨xs.length - (i + 1), by omega, rfl, hlt, p'⟩, fun v H' z => ?_⟩
    obtain ⟨pp, x, y, hp, rfl, hx, hy, rfl⟩ := z
    exact hs i x y σ H pp (hx xs q1) (hy ys q2) p hp
  · have e : i = xs.length := by omega
    subst e
    exact .inl ⟨⟨xs, ys, q1, q2, rfl⟩, hd σ H p⟩
end
end L2
namespace L2
open PySem PySem.Spec PyProof.Rows
def cSt2 (σ : St) (js : List Nat) : St := none :: none :: js.map fun j => (σ[j]?).getD none
structure CScope2 (S scope : Scope) (x x2 : Str) (N : List Str) (P : List Str) (js : List Nat) : Prop where
  kind : scope.kind = .function
  nocell : ∀ y ∈ scope.names, y.2 ≠ .cell
  loc : ∀ y ∈ scope.names, y.2 = .local → scope.names.lookup y.1 = some .local
  free : ∀ y ∈ scope.names, y.2 = .free → S.names.lookup y.1 = some .cell ∨ S.names.lookup y.1 = some .free
  own : scope.names.lookup x = some .local
  own2 : scope.names.lookup x2 = some .local
  nd : N.Nodup
  hd : N = x :: x2 :: (js.map fun j => (P[j]?).getD x)
  fr : ∀ j ∈ js, ∃ y, P[j]? = some y ∧ scope.names.lookup y = some .free
def csB2 (S scope : Scope) (x x2 : Str) (N P : List Str) (js : List Nat) : Bool :=
  (scope.kind == .function) && scope.names.all (fun y => !(y.2 == .cell)) && scope.names.all (fun y => !(y.2 == .local) || scope.names.lookup y.1 == some .local) &&
  scope.names.all (fun y => !(y.2 == .free) || (S.names.lookup y.1 == some .cell || S.names.lookup y.1 == some .free)) && (scope.names.lookup x == some .local) && (scope.names.lookup x2 == some .local) && decide N.Nodup && (N == x :: x2 :: (js.map fun j => (P[j]?).getD x)) &&
  js.all (fun j => match P[j]? with | some y => scope.names.lookup y == some .free | none => false)
section
variable {X : Cx} {pins : List (Addr × Obj)} {σ : St} {H : Hp} {s : Shared} {scope S : Scope} {cl : List (Str × Addr)} {C : Addr} {N : List Str} {fp : List Addr} {x x2 : Str} {js : List Nat}
end
section
variable {X : Cx} {pins : List (Addr × Obj)} {σ : St} {H : Hp} {s : Shared} {scope S : Scope} {cl : List (Str × Addr)} {N : List Str} {fp : List Addr} {x x2 : Str} {js : List Nat}
def CompW2 (J : It) (g : TG) (tc : TT) (te : TE) (js : List Nat) (σ : St) (H1 : Hp) (Q : VK) (D : Addr) : Prop :=
  ∃ W : Nat → Nat → List V → St → Hp → Prop, (∃ m, W 0 m [] (cSt2 σ js) (upd H1 D (.lst []))) ∧ ∀ i m acc σ' H', W i m acc σ' H' → H' D = some (.lst acc) ∧
    ((J.stop i H' ∧ Q (.ref D) H') ∨ (J.go i H' ∧ acc.length < sizeLine ∧ ∀ y H2, J.yld i H' y H2 → g y σ' H2 fun σ3 H3 => tc σ3 H3 fun b H4 =>
      if b = true then te σ3 H4 fun z H5 => H5 D = some (.lst acc) ∧ ∃ m', m' < m ∧ W (i + 1) m' (acc ++ [z]) σ3 (upd H5 D (.lst (acc ++ [z])))
      else ∃ m', m' < m ∧ W (i + 1) m' acc σ3 H4))
def tComp2 (wi : TI) (g : TG) (tc : TT) (te : TE) (js : List Nat) : TE := fun σ H Q => wi σ H fun J H1 => ∀ D, H1 D = none → CompW2 J g tc te js σ H1 Q D
variable {elt iter tg : Expr} {ifs : List Expr} {pos : Pos} {wi : TI} {g : TG} {tc : TT} {te : TE}
end
end L2
namespace L2
open PySem
def rLstOf (K : PySem.W.Frag) : List V → Hp → VK → Prop := fun xs H Q => ∃ p ys, xs = [.ref p] ∧ (SqL K H p ys ∨ SqT K H p ys) ∧ ∀ l, H l = none → Q (.ref l) (upd H l (.lst ys))
end L2
namespace Tn
open PySem L2
def allO {α : Type} : List (Option α) → Option (List α)
  | [] => some []
  | none :: _ => none
  | some a :: r => (allO r).map (a :: ·)
def firstsF (ps : List Nat) : List Nat := 0 :: ps
def behindsF (n : Nat) (ps : List Nat) : List Nat := ps ++ [n]
def stretchF (ord : List Int) (ps : List Nat) : List (List Int) := ((firstsF ps).zip (behindsF ord.length ps)).map fun ab => (ord.drop ab.1).take (ab.2 - ab.1)
def nestF : Nat → List Int → Option Nest
  | 0, _ => none
  | d + 1, ord => if ord.length = 1 then some .word else if (cutF ord).2 = [] then none else
    (allO ((stretchF ord (cutF ord).2).map fun b => nestF d (leftF ord b))).map fun ns => if (cutF ord).1 = kS false then .knot false ns.reverse else .knot true ns
def Asc (n : Nat) (ps : List Nat) : Prop := ps.Pairwise (· < ·) ∧ ∀ p ∈ ps, 1 ≤ p ∧ p < n
def barS : Str := "barred"
def TellsN (K : PySem.W.Frag) (H : Hp) (o : Option Nest) (v : V) : Prop := match o with
  | some n => NestAt K H n v
  | none => v = .str barS
def spStretch (K : PySem.W.Frag) : Sp := fun vs H Q _ => ∃ (o p : Addr) (ord : List Int) (ps : List Nat), vs = [.ref o, .ref p] ∧ SqT K H o (ord.map V.int) ∧ H p = some (.tup (natV ps)) ∧ Asc ord.length ps ∧ ps ≠ [] ∧ 1 ≤ ord.length ∧ ord.length ≤ 900 ∧
  ∀ (q : Addr) (qs : List Addr) (H' : Hp), H q = none → (∀ x ∈ qs, H x = none) → H' q = some (.lst (qs.map V.ref)) → LstsAt H' qs (stretchF ord ps) → Same H H' → Q (.ref q) H'
def spNestOf (K : PySem.W.Frag) (d : Nat) : Sp := fun vs H Q _ => ∃ (o : Addr) (ord : List Int), vs = [.ref o] ∧ SqT K H o (ord.map V.int) ∧ IsOrd ord ∧ 1 ≤ ord.length ∧ ord.length ≤ 60 ∧ ord.length ≤ d ∧ ∀ (v : V) (H' : Hp), TellsN K H' (nestF d ord) v → Same H H' → Q v H'
end Tn
namespace Tn
open PySem L2
mutual
def fit : Nest → Bool
  | .word => true
  | .knot _ ps => decide (2 ≤ ps.length) && fitL ps
  | .bad => false
def fitL : List Nest → Bool
  | [] => true
  | n :: r => fit n && fitL r
end
mutual
theorem NestAt.fit {K : PySem.W.Frag} {H : Hp} : ∀ {n : Nest} {o : Option Bool} {v : V}, NestAt K H n v → valid o n = true → Tn.fit n = true
  | .word, _, _, _, _ => rfl
  | .knot k ps, _, _, ⟨a, b, vs, _, _, _, h2, _, h5⟩, hv => by
    have hvl : validL k ps = true := by simp only [valid, Bool.and_eq_true] at hv; exact hv.2
    have hl := h5.len
    rw [Tn.fit, NestsAt.fit h5 hvl, decide_eq_true (by omega)]
    rfl
  | .bad, _, _, _, hv => by simp [valid] at hv
theorem NestsAt.fit {K : PySem.W.Frag} {H : Hp} : ∀ {ps : List Nest} {k : Bool} {vs : List V}, NestsAt K H ps vs → validL k ps = true → fitL ps = true
  | [], _, _, _, _ => rfl
  | n :: r, k, _, ⟨v, vr, _, h1, h2⟩, hv => by
    simp only [validL, Bool.and_eq_true] at hv
    rw [fitL, NestAt.fit h1 hv.1, NestsAt.fit h2 hv.2]
    rfl
end
mutual
theorem row_shift : ∀ (n : Nest) (f g : Int), rowN n (f + g) = (rowN n f).map fun w => w + g
  | .word, f, g => by rw [rowN, rowN]; rfl
  | .knot k ps, f, g => by
    rw [rowN, rowN, rows_shift ps f g]
    cases k
    · show (List.map _ _).reverse.flatten = List.map _ ((rowsN ps f).reverse).flatten
      rw [← List.map_reverse, List.map_flatten]
    · show (List.map _ _).flatten = List.map _ (rowsN ps f).flatten
      rw [List.map_flatten]
  | .bad, f, g => by rw [rowN, rowN]; rfl
theorem rows_shift : ∀ (ps : List Nest) (f g : Int), rowsN ps (f + g) = (rowsN ps f).map fun l => l.map fun w => w + g
  | [], f, g => by rw [rowsN, rowsN]; rfl
  | n :: r, f, g => by
    rw [rowsN, rowsN, row_shift n f g, List.map_cons, List.length_map, show f + g + ((rowN n f).length : Int) = f + ((rowN n f).length : Int) + g by omega, rows_shift r _ g]
end
theorem row_mem {n : Nest} {o : Option Bool} {f w : Int} (hv : valid o n = true) (h : w ∈ rowN n f) : f ≤ w ∧ w < f + (words n : Int) := by
  have := (row_perm n o f hv).mem_iff.mp h
  unfold fromTo at this
  obtain ⟨z, hz, rfl⟩ := List.mem_map.mp this
  have := mem_upto.mp hz
  omega
def Rk (k : Bool) (a b : Int) : Prop := if k then a < b else b < a
def Apart (k : Bool) (x y : List Int) : Prop := ∀ a ∈ x, ∀ b ∈ y, Rk k a b
def seenB (k : Bool) (rs : List (List Int)) : List (List Int) := if k then rs else rs.reverse
theorem row_seen (k : Bool) (ps : List Nest) (f : Int) : rowN (.knot k ps) f = (seenB k (rowsN ps f)).flatten := by
  rw [rowN]; rfl
structure Blocks (k : Bool) (bs : List (List Int)) : Prop where
  two : 2 ≤ bs.length
  ne : ∀ x ∈ bs, x ≠ []
  ap : bs.Pairwise (Apart k)
def bordF : Nat → List (List Int) → List Nat
  | _, [] => []
  | _, [_] => []
  | a, b :: c :: r => (a + b.length) :: bordF (a + b.length) (c :: r)
def cutB (k : Bool) (ord : List Int) : Nat → Bool := if k then upB ord else dnB ord
end Tn
namespace Tn
open PySem L2
def PairsAt (K : PySem.W.Frag) (H : Hp) (qs : List Addr) (ns : List Nest) : Prop := Paired (fun q n => ∃ x y, H q = some (.tup [x, y]) ∧ NestAt K H n x ∧ NestAt K H n y) qs ns
theorem PairsAt.mono {K : PySem.W.Frag} {H H' : Hp} (s : Same H H') : ∀ {qs : List Addr} {ns : List Nest}, PairsAt K H qs ns → PairsAt K H' qs ns
  | _, _, .nil => .nil
  | _, _, .cons ⟨x, y, e, h1, h2⟩ t => .cons ⟨x, y, s _ _ e, h1.mono s, h2.mono s⟩ (PairsAt.mono s t)
theorem PairsAt.updL {K : PySem.W.Frag} {H : Hp} {l : Addr} {us vs : List V} (e : H l = some (.lst us)) : ∀ {qs : List Addr} {ns : List Nest}, PairsAt K H qs ns → PairsAt K (upd H l (.lst vs)) qs ns
  | _, _, .nil => .nil
  | _, _, .cons ⟨x, y, e1, h1, h2⟩ t => .cons ⟨x, y, by rw [upd_ne (ne_of e1 e (by intro z; cases z))]; exact e1, NestAt.updL e h1, NestAt.updL e h2⟩ (PairsAt.updL e t)
theorem PairsAt.len {K : PySem.W.Frag} {H : Hp} : ∀ {qs : List Addr} {ns : List Nest}, PairsAt K H qs ns → qs.length = ns.length
  | _, _, .nil => rfl
  | _, _, .cons _ t => congrArg (· + 1) (PairsAt.len t)
theorem PairsAt.app {K : PySem.W.Frag} {H : Hp} : ∀ {qs rs : List Addr} {ns ms : List Nest}, PairsAt K H qs ns → PairsAt K H rs ms → PairsAt K H (qs ++ rs) (ns ++ ms)
  | _, _, _, _, .nil, h => h
  | _, _, _, _, .cons a t, h => .cons a (PairsAt.app t h)
def sizeS (ns : List Nest) : Nat := (ns.map sizeN).sum
def spAlike (K : PySem.W.Frag) : Sp := fun vs H Q _ => ∃ (x y : V) (n : Nest), vs = [x, y] ∧ NestAt K H n x ∧ NestAt K H n y ∧ Tn.fit n = true ∧ sizeN n ≤ 900 ∧ ∀ H', Same H H' → Q (.bl true) H'
mutual
theorem size_words : ∀ {n : Nest}, Tn.fit n = true → sizeN n + 1 ≤ 2 * words n
  | .word, _ => by simp [sizeN, words]
  | .knot k ps, h => by
    rw [Tn.fit, Bool.and_eq_true, decide_eq_true_eq] at h
    have := sizes_words h.2
    rw [sizeN, words]
    omega
  | .bad, h => by simp [Tn.fit] at h
theorem sizes_words : ∀ {ps : List Nest}, fitL ps = true → sizeL ps + ps.length ≤ 2 * wordsL ps
  | [], _ => by simp [sizeL, wordsL]
  | n :: r, h => by
    rw [fitL, Bool.and_eq_true] at h
    have := size_words h.1
    have := sizes_words h.2
    rw [sizeL, wordsL, List.length_cons]
    omega
end
def rSumL (K : PySem.W.Frag) : List V → Hp → VK → Prop := fun vs H Q => ∃ (p : Addr) (ns : List Int), vs = [.ref p] ∧ SqL K H p (ns.map V.int) ∧ Q (.int ns.sum) H
end Tn
namespace Tn
open PySem L2
mutual
def LAt (H : Hp) : Nest → V → Prop
  | .word, v => v = .non
  | .knot _ ps, v => ∃ a vs, v = .ref a ∧ H a = some (.lst vs) ∧ 2 ≤ vs.length ∧ vs.length ≤ 1000 ∧ LsAt H ps vs
  | .bad, _ => False
def LsAt (H : Hp) : List Nest → List V → Prop
  | [], vs => vs = []
  | n :: r, vs => ∃ v vr, vs = v :: vr ∧ LAt H n v ∧ LsAt H r vr
end
mutual
theorem LAt.mono {H H' : Hp} (s : Same H H') : ∀ {n : Nest} {v : V}, LAt H n v → LAt H' n v
  | .word, _, h => h
  | .knot _ _, _, ⟨a, vs, e, h1, h2, h3, h4⟩ => ⟨a, vs, e, s _ _ h1, h2, h3, LsAt.mono s h4⟩
  | .bad, _, h => h.elim
theorem LsAt.mono {H H' : Hp} (s : Same H H') : ∀ {ns : List Nest} {vs : List V}, LsAt H ns vs → LsAt H' ns vs
  | [], _, h => h
  | _ :: _, _, ⟨v, vr, e, h1, h2⟩ => ⟨v, vr, e, LAt.mono s h1, LsAt.mono s h2⟩
end
theorem LsAt.len {H : Hp} : ∀ {ns : List Nest} {vs : List V}, LsAt H ns vs → ns.length = vs.length
  | [], _, h => by have h : _ = [] := h; subst h; rfl
  | _ :: _, _, ⟨v, vr, e, _, h2⟩ => by subst e; simp [LsAt.len h2]
theorem LsAt.app {H : Hp} : ∀ {ns ms : List Nest} {vs us : List V}, LsAt H ns vs → LsAt H ms us → LsAt H (ns ++ ms) (vs ++ us)
  | [], _, _, _, h, h' => by have h : _ = [] := h; subst h; exact h'
  | _ :: _, _, _, _, ⟨v, vr, e, h1, h2⟩, h' => by subst e; exact ⟨v, _, rfl, h1, LsAt.app h2 h'⟩
theorem LsAt.one {H : Hp} {n : Nest} {v : V} (h : LAt H n v) : LsAt H [n] [v] := ⟨v, [], rfl, h, rfl⟩
theorem LsAt.get {H : Hp} : ∀ {ns : List Nest} {vs : List V} {i : Nat} {v : V}, LsAt H ns vs → vs[i]? = some v → ∃ n, ns[i]? = some n ∧ LAt H n v
  | [], _, _, _, h, e => by have h : _ = [] := h; subst h; cases e
  | n :: _, _, 0, _, ⟨v, vr, e0, h1, _⟩, e => by subst e0; cases e; exact ⟨n, rfl, h1⟩
  | _ :: _, _, i + 1, _, ⟨v, vr, e0, _, h2⟩, e => by subst e0; exact LsAt.get (i := i) h2 (by simpa using e)
mutual
theorem lwords_pos {H : Hp} : ∀ {n : Nest} {v : V}, LAt H n v → 1 ≤ words n ∧ depthN n + 1 ≤ words n
  | .word, _, _ => by simp [words, depthN]
  | .knot _ ps, _, ⟨_, vs, _, _, h3, _, h5⟩ => by
    have h6 := lwordsL_pos h5
    have h7 := LsAt.len h5
    simp only [words, depthN]
    omega
  | .bad, _, h => h.elim
theorem lwordsL_pos {H : Hp} : ∀ {ns : List Nest} {vs : List V}, LsAt H ns vs → ns.length ≤ wordsL ns ∧ depthL ns + ns.length ≤ wordsL ns
  | [], _, _ => by simp [wordsL, depthL]
  | _ :: _, _, ⟨_, _, _, h1, h2⟩ => by
    have h3 := lwords_pos h1
    have h4 := lwordsL_pos h2
    simp only [wordsL, depthL, List.length_cons, Nat.max_def]
    split <;> omega
end
mutual
def kindN : Bool → Nest → Nest
  | _, .word => .word
  | k, .knot _ ps => .knot k (kindL (!k) ps)
  | _, .bad => .bad
def kindL : Bool → List Nest → List Nest
  | _, [] => []
  | k, n :: r => kindN k n :: kindL k r
end
mutual
theorem kind_words : ∀ (k : Bool) (n : Nest), words (kindN k n) = words n ∧ depthN (kindN k n) = depthN n
  | _, .word => ⟨rfl, rfl⟩
  | k, .knot _ ps => by have := kind_wordsL (!k) ps; simp only [kindN, words, depthN]; omega
  | _, .bad => ⟨rfl, rfl⟩
theorem kind_wordsL : ∀ (k : Bool) (ps : List Nest), wordsL (kindL k ps) = wordsL ps ∧ depthL (kindL k ps) = depthL ps
  | _, [] => ⟨rfl, rfl⟩
  | k, n :: r => by
    have h1 := kind_words k n
    have h2 := kind_wordsL k r
    simp only [kindL, wordsL, depthL, h1.1, h1.2, h2.1, h2.2, and_self]
end
mutual
theorem kind_valid {H : Hp} : ∀ {n : Nest} {v : V} {k : Bool} {o : Option Bool}, LAt H n v → o ≠ some k → valid o (kindN k n) = true
  | .word, _, _, _, _, _ => by simp [kindN, valid]
  | .knot _ ps, _, k, o, ⟨_, _, _, _, _, _, h⟩, ho => by
    simp only [kindN, valid, Bool.and_eq_true, Bool.not_eq_true', decide_eq_false_iff_not]
    exact ⟨ho, kind_validL (k := k) h⟩
  | .bad, _, _, _, h, _ => h.elim
theorem kind_validL {H : Hp} : ∀ {ps : List Nest} {vs : List V} {k : Bool}, LsAt H ps vs → validL k (kindL (!k) ps) = true
  | [], _, _, _ => by simp [kindL, validL]
  | n :: r, _, k, ⟨_, _, _, h1, h2⟩ => by
    simp only [kindL, validL, Bool.and_eq_true]
    exact ⟨kind_valid h1 (by cases k <;> simp), kind_validL h2⟩
end
def spClosed (K : PySem.W.Frag) : Sp := fun vs H Q _ => ∃ (pl A B : Addr) (As : List Addr) (us xs : List V), vs = [.ref pl] ∧ H pl = some (.lst ((As ++ [B, A]).map V.ref)) ∧ H A = some (.lst xs) ∧ H B = some (.lst us) ∧ A ≠ B ∧ A ≠ pl ∧ B ≠ pl ∧ us.length ≤ 900 ∧ As.length ≤ 900 ∧
  (xs = [] → Q .non (upd H pl (.lst ((As ++ [B]).map V.ref)))) ∧ (∀ x, xs = [x] → Q .non (upd (upd H pl (.lst ((As ++ [B]).map V.ref))) B (.lst (us ++ [x])))) ∧ (2 ≤ xs.length → Q .non (upd (upd H pl (.lst ((As ++ [B]).map V.ref))) B (.lst (us ++ [.ref A]))))
def spLists (K : PySem.W.Frag) : Sp := fun vs H Q _ => ∃ (l : Addr) (cs : List Int), vs = [.ref l] ∧ SqL K H l (cs.map V.int) ∧ cs.length ≤ 100 ∧ ∀ (A : Addr) (ts : List Nest) (us : List V) (H' : Hp), H' A = some (.lst us) → LsAt H' ts us → wordsL ts ≤ cs.length → Same H H' → Q (.ref A) H'
def spKinded (K : PySem.W.Frag) (d : Nat) : Sp := fun vs H Q _ => ∃ (v : V) (n : Nest) (k : Bool), vs = [v, .str (kS k)] ∧ LAt H n v ∧ depthN n < d ∧ words n ≤ 100 ∧ ∀ (v' : V) (H' : Hp), NestAt K H' (kindN k n) v' → Same H H' → Q v' H'
def spNestL (K : PySem.W.Frag) : Sp := fun vs H Q _ => ∃ (l : Addr) (cs : List Int) (y : Int), vs = [.ref l, .int y] ∧ SqL K H l (cs.map V.int) ∧ cs.length ≤ 60 ∧ ∀ (n : Nest) (v : V) (H' : Hp), NestAt K H' n v → valid none n = true → words n ≤ 60 → (words n = 1 ∨ words n ≤ cs.length) → Same H H' → Q v H'
def spIsN (K : PySem.W.Frag) (d : Nat) : Sp := fun vs H Q _ => ∃ (v : V) (n : Nest) (o : Option Bool), vs = [v] ∧ NestAt K H n v ∧ valid o n = true ∧ depthN n < d ∧ ∀ H', Same H H' → Q (.bl true) H'
def refsO (st : List (Addr × List Nest)) : List V := (st.reverse.map fun x => V.ref x.1)
theorem refsO_cons (x : Addr × List Nest) (r : List (Addr × List Nest)) : refsO (x :: r) = refsO r ++ [V.ref x.1] := by simp [refsO]
structure OpenAt (C H : Hp) (pl : Addr) (st : List (Addr × List Nest)) : Prop where
  sm : Same C H
  np : C pl = none
  hp : H pl = some (.lst (refsO st))
  nd : (st.map Prod.fst).Nodup
  npl : pl ∉ st.map Prod.fst
  pr : ∀ x ∈ st, C x.1 = none ∧ ∃ us, H x.1 = some (.lst us) ∧ LsAt C x.2 us
def wsum (st : List (Addr × List Nest)) : Nat := (st.map fun x => wordsL x.2).sum
section
variable {C H : Hp} {pl A B : Addr} {ts us : List Nest} {r st : List (Addr × List Nest)}
theorem same_upd_none {C H : Hp} {a : Addr} {o : HO} (h : Same C H) (hn : C a = none) : Same C (upd H a o) := fun b ob e => by
  rw [upd_ne (ne_of_none e hn)]; exact h b ob e
theorem OpenAt.ne (h : OpenAt C H pl ((A, ts) :: r)) : A ≠ pl ∧ ∀ x ∈ r, x.1 ≠ A ∧ x.1 ≠ pl := by
  have h1 := h.nd
  have h2 := h.npl
  rw [List.map_cons, List.nodup_cons] at h1
  rw [List.map_cons, List.mem_cons, not_or] at h2
  refine ⟨fun z => h2.1 z.symm, fun x hx => ⟨fun z => h1.1 ?_, fun z => h2.2 ?_⟩⟩
  · show A ∈ _
    rw [← z]; exact List.mem_map_of_mem (f := Prod.fst) hx
  · rw [← z]; exact List.mem_map_of_mem (f := Prod.fst) hx
theorem OpenAt.push (h : OpenAt C H pl st) {x : Addr} (hx : H x = none) : OpenAt C (upd (upd H x (.lst [])) pl (.lst (refsO st ++ [V.ref x]))) pl ((x, []) :: st) := by
  have hC : C x = none := by
    cases e : C x with
    | none => rfl
    | some o => rw [h.sm _ _ e] at hx; cases hx
  have nx : x ≠ pl := fun z => by rw [z, h.hp] at hx; cases hx
  have nst : ∀ y ∈ st, y.1 ≠ x := fun y hy z => by obtain ⟨_, us, e, _⟩ := h.pr y hy; rw [z, hx] at e; cases e
  have nst2 : ∀ y ∈ st, y.1 ≠ pl := fun y hy z => h.npl (by rw [← z]; exact List.mem_map_of_mem hy)
  refine ⟨same_upd_none (same_upd_none h.sm hC) h.np, h.np, by rw [upd_same, refsO_cons], ?_, ?_, fun y hy => ?_⟩
  · rw [List.map_cons, List.nodup_cons]
    refine ⟨fun z => ?_, h.nd⟩
    obtain ⟨y, hy, e⟩ := List.mem_map.mp z
    exact nst y hy e
  · rw [List.map_cons, List.mem_cons, not_or]
    exact ⟨fun z => nx z.symm, h.npl⟩
  · rcases List.mem_cons.mp hy with rfl | hy
    · exact ⟨hC, [], by rw [upd_ne nx, upd_same], rfl⟩
    · obtain ⟨h1, us, e, h2⟩ := h.pr y hy
      exact ⟨h1, us, by rw [upd_ne (nst2 y hy), upd_ne (nst y hy)]; exact e, h2⟩
theorem OpenAt.drop (h : OpenAt C H pl ((A, ts) :: r)) : OpenAt C (upd H pl (.lst (refsO r))) pl r ∧ ∃ vs, H A = some (.lst vs) ∧ LsAt C ts vs ∧ (vs.length ≤ 1000 → OpenAt (upd C A (.lst vs)) (upd H pl (.lst (refsO r))) pl r ∧ Same C (upd C A (.lst vs))) := by
  have hn0 := h.ne
  obtain ⟨hA, vs, eA, hl⟩ := h.pr (A, ts) List.mem_cons_self
  have h1 := h.nd
  have h2 := h.npl
  rw [List.map_cons, List.nodup_cons] at h1
  rw [List.map_cons, List.mem_cons, not_or] at h2
  have S : Same C (upd C A (.lst vs)) := same_upd hA
  have hpr : ∀ x ∈ r, C x.1 = none ∧ ∃ us, (upd H pl (.lst (refsO r))) x.1 = some (.lst us) ∧ LsAt C x.2 us := fun y hy => by
    obtain ⟨h1, us, e, h2⟩ := h.pr y (List.mem_cons_of_mem _ hy)
    exact ⟨h1, us, by rw [upd_ne (hn0.2 y hy).2]; exact e, h2⟩
  refine ⟨⟨same_upd_none h.sm h.np, h.np, upd_same, h1.2, h2.2, hpr⟩, vs, eA, hl, fun _ => ⟨⟨?_, ?_, upd_same, h1.2, h2.2, fun y hy => ?_⟩, S⟩⟩
  · intro b ob e
    by_cases hb : b = A
    · subst hb
      rw [upd_same] at e
      rw [upd_ne hn0.1, ← e]
      exact eA
    · rw [upd_ne hb] at e
      rw [upd_ne (ne_of_none e h.np)]
      exact h.sm _ _ e
  · rw [upd_ne hn0.1.symm]; exact h.np
  · obtain ⟨h1, us, e, h2⟩ := hpr y hy
    exact ⟨by rw [upd_ne (hn0.2 y hy).1]; exact h1, us, e, h2.mono S⟩
end
mutual
def backN : Nest → Nest
  | .word => .word
  | .knot k ps => .knot k (if k then backL ps else (backL ps).reverse)
  | .bad => .bad
def backL : List Nest → List Nest
  | [] => []
  | n :: r => backN n :: backL r
end
mutual
def mirN : Nest → Nest
  | .word => .word
  | .knot k ps => .knot (!k) (mirL ps)
  | .bad => .bad
def mirL : List Nest → List Nest
  | [] => []
  | n :: r => mirN n :: mirL r
end
theorem backL_map : ∀ ps : List Nest, backL ps = ps.map backN
  | [] => rfl
  | n :: r => by rw [backL, backL_map r]; rfl
theorem mirL_map : ∀ ps : List Nest, mirL ps = ps.map mirN
  | [] => rfl
  | n :: r => by rw [mirL, mirL_map r]; rfl
theorem wordsL_sumN : ∀ ps : List Nest, wordsL ps = (ps.map words).sum
  | [] => rfl
  | n :: r => by rw [wordsL, wordsL_sumN r]; simp
theorem wordsL_rev (ps : List Nest) : wordsL ps.reverse = wordsL ps := by rw [wordsL_sumN, wordsL_sumN, List.map_reverse, List.sum_reverse]
theorem validL_all (k : Bool) : ∀ ps : List Nest, validL k ps = ps.all (valid (some k))
  | [] => rfl
  | n :: r => by rw [validL, validL_all k r]; rfl
theorem validL_rev (k : Bool) (ps : List Nest) : validL k ps.reverse = validL k ps := by rw [validL_all, validL_all, List.all_reverse]
mutual
theorem back_words : ∀ n : Nest, words (backN n) = words n
  | .word => rfl
  | .knot k ps => by
    have := back_wordsL ps
    cases k
    · simp only [backN, words]; rw [if_neg (by decide), wordsL_rev, this]
    · simp only [backN, words]; rw [if_pos trivial, this]
  | .bad => rfl
theorem back_wordsL : ∀ ps : List Nest, wordsL (backL ps) = wordsL ps
  | [] => rfl
  | n :: r => by simp only [backL, wordsL, back_words n, back_wordsL r]
end
mutual
theorem back_valid : ∀ (n : Nest) (o : Option Bool), valid o (backN n) = valid o n
  | .word, _ => rfl
  | .knot k ps, o => by
    have := back_validL ps k
    cases k
    · simp only [backN, valid]; rw [if_neg (by decide), validL_rev, this]
    · simp only [backN, valid]; rw [if_pos trivial, this]
  | .bad, _ => rfl
theorem back_validL : ∀ (ps : List Nest) (k : Bool), validL k (backL ps) = validL k ps
  | [], _ => rfl
  | n :: r, k => by simp only [backL, validL, back_valid n, back_validL r]
end
mutual
theorem back_backN : ∀ n : Nest, backN (backN n) = n
  | .word => rfl
  | .knot k ps => by
    have := back_backL ps
    cases k
    · simp only [backN]
      rw [if_neg (by decide), if_neg (by decide), backL_map, List.map_reverse, List.reverse_reverse, ← backL_map, this]
    · simp only [backN]
      rw [if_pos trivial, if_pos trivial, this]
  | .bad => rfl
theorem back_backL : ∀ ps : List Nest, backL (backL ps) = ps
  | [] => rfl
  | n :: r => by simp only [backL, back_backN n, back_backL r]
end
mutual
theorem mir_words : ∀ n : Nest, words (mirN n) = words n
  | .word => rfl
  | .knot k ps => by simp only [mirN, words, mir_wordsL ps]
  | .bad => rfl
theorem mir_wordsL : ∀ ps : List Nest, wordsL (mirL ps) = wordsL ps
  | [] => rfl
  | n :: r => by simp only [mirL, wordsL, mir_words n, mir_wordsL r]
end
mutual
theorem mir_valid : ∀ (n : Nest) (o : Option Bool), valid (o.map not) (mirN n) = valid o n
  | .word, _ => rfl
  | .knot k ps, o => by
    have := mir_validL ps k
    simp only [mirN, valid, this]
    congr 2
    cases o with
    | none => simp
    | some b => cases b <;> cases k <;> rfl
  | .bad, _ => rfl
theorem mir_validL : ∀ (ps : List Nest) (k : Bool), validL (!k) (mirL ps) = validL k ps
  | [], _ => rfl
  | n :: r, k => by
    have h1 := mir_valid n (some k)
    have h2 := mir_validL r k
    simp only [mirL, validL, h2]
    congr 1
end
mutual
theorem mir_mir : ∀ n : Nest, mirN (mirN n) = n
  | .word => rfl
  | .knot k ps => by simp only [mirN, mir_mirL ps, Bool.not_not]
  | .bad => rfl
theorem mir_mirL : ∀ ps : List Nest, mirL (mirL ps) = ps
  | [] => rfl
  | n :: r => by simp only [mirL, mir_mir n, mir_mirL r]
end
mutual
theorem back_depth : ∀ n : Nest, depthN (backN n) = depthN n
  | .word => rfl
  | .knot k ps => by
    have h := back_depthL ps
    have hr : ∀ l : List Nest, depthL l.reverse = depthL l := fun l => by
      have hm : ∀ (l : List Nest) (d : Nat), depthL l ≤ d ↔ ∀ n ∈ l, depthN n ≤ d := fun l => by
        induction l with
        | nil => intro d; simp [depthL]
        | cons a l ih => intro d; simp only [depthL, Nat.max_le, List.mem_cons, forall_eq_or_imp, ih]
      apply Nat.le_antisymm
      · rw [hm]
        intro n hn
        exact (hm l _).mp (Nat.le_refl _) n (List.mem_reverse.mp hn)
      · rw [hm]
        intro n hn
        exact (hm l.reverse _).mp (Nat.le_refl _) n (List.mem_reverse.mpr hn)
    cases k
    · simp only [backN, depthN]; rw [if_neg (by decide), hr, h]
    · simp only [backN, depthN]; rw [if_pos trivial, h]
  | .bad => rfl
theorem back_depthL : ∀ ps : List Nest, depthL (backL ps) = depthL ps
  | [] => rfl
  | n :: r => by simp only [backL, depthL, back_depth n, back_depthL r]
end
mutual
theorem mir_depth : ∀ n : Nest, depthN (mirN n) = depthN n
  | .word => rfl
  | .knot k ps => by simp only [mirN, depthN, mir_depthL ps]
  | .bad => rfl
theorem mir_depthL : ∀ ps : List Nest, depthL (mirL ps) = depthL ps
  | [] => rfl
  | n :: r => by simp only [mirL, depthL, mir_depth n, mir_depthL r]
end
mutual
theorem mir_row : ∀ (n : Nest) (f : Int), rowN (mirN n) f = (rowN n f).reverse
  | .word, _ => rfl
  | .knot k ps, f => by
    have h := mir_rows ps f
    cases k
    · simp only [mirN, rowN, Bool.not_false]
      rw [if_pos trivial, if_neg (by decide), h, List.reverse_flatten, List.map_reverse, List.reverse_reverse]
    · simp only [mirN, rowN, Bool.not_true]
      rw [if_neg (by decide), if_pos trivial, h, List.reverse_flatten]
  | .bad, _ => rfl
theorem mir_rows : ∀ (ps : List Nest) (f : Int), rowsN (mirL ps) f = (rowsN ps f).map List.reverse
  | [], _ => rfl
  | n :: r, f => by
    have h1 := mir_row n f
    have h2 := mir_rows r (f + ((rowN n f).length : Int))
    simp only [mirL, rowsN, h1, List.length_reverse, h2, List.map_cons]
end
def Inv2 (xs : List Int) (f : Int) (ys : List Int) (g : Int) : Prop := xs.length = ys.length ∧ ∀ (i : Nat) (w : Int), xs[i]? = some w → ∃ u : Nat, w = f + (u : Int) ∧ ys[u]? = some (g + (i : Int))
theorem Inv2.rise {xs xs' ys ys' : List Int} {f g : Int} (h : Inv2 xs f ys g) (h' : Inv2 xs' (f + (xs.length : Int)) ys' (g + (xs.length : Int))) : Inv2 (xs ++ xs') f (ys ++ ys') g := by
  refine ⟨by simp [h.1, h'.1], fun i w e => ?_⟩
  by_cases hi : i < xs.length
  · rw [List.getElem?_append_left hi] at e
    obtain ⟨u, e1, e2⟩ := h.2 i w e
    exact ⟨u, e1, by rw [List.getElem?_append_left (List.getElem?_eq_some_iff.mp e2).1]; exact e2⟩
  · rw [List.getElem?_append_right (by omega)] at e
    obtain ⟨u, e1, e2⟩ := h'.2 _ w e
    refine ⟨xs.length + u, by omega, ?_⟩
    rw [List.getElem?_append_right (by have := h.1; omega), show xs.length + u - ys.length = u by have := h.1; omega, e2]
    congr 1
    omega
theorem Inv2.fall {xs xs' ys ys' : List Int} {f g : Int} (h : Inv2 xs f ys (g + (xs'.length : Int))) (h' : Inv2 xs' (f + (xs.length : Int)) ys' g) : Inv2 (xs' ++ xs) f (ys ++ ys') g := by
  refine ⟨by simp [h.1, h'.1]; omega, fun i w e => ?_⟩
  by_cases hi : i < xs'.length
  · rw [List.getElem?_append_left hi] at e
    obtain ⟨u, e1, e2⟩ := h'.2 i w e
    refine ⟨xs.length + u, by omega, ?_⟩
    rw [List.getElem?_append_right (by have := h.1; omega), show xs.length + u - ys.length = u by have := h.1; omega, e2]
  · rw [List.getElem?_append_right (by omega)] at e
    obtain ⟨u, e1, e2⟩ := h.2 _ w e
    refine ⟨u, e1, ?_⟩
    rw [List.getElem?_append_left (List.getElem?_eq_some_iff.mp e2).1, e2]
    congr 1
    omega
theorem rowsN_snoc : ∀ (ps : List Nest) (n : Nest) (g : Int), rowsN (ps ++ [n]) g = rowsN ps g ++ [rowN n (g + ((rowsN ps g).flatten.length : Int))]
  | [], n, g => by simp [rowsN]
  | p :: r, n, g => by
    rw [List.cons_append, rowsN, rowsN_snoc r n, rowsN, List.cons_append, List.flatten_cons, List.length_append]
    congr 4
    omega
mutual
theorem back_row : ∀ (n : Nest) (o : Option Bool) (f g : Int), valid o n = true → Inv2 (rowN n f) f (rowN (backN n) g) g
  | .word, _, f, g, _ => by
    refine ⟨rfl, fun i w e => ?_⟩
    rw [rowN] at e
    match i, e with
    | 0, e => exact ⟨0, by simpa using e.symm, by simp [backN, rowN]⟩
    | i + 1, e => simp at e
  | .knot k ps, o, f, g, h => by
    have hv : validL k ps = true := by simp only [valid, Bool.and_eq_true] at h; exact h.2
    cases k with
    | true =>
      simp only [backN, rowN]
      rw [if_pos trivial, if_pos trivial, if_pos trivial]
      exact back_rise ps true f g hv
    | false =>
      simp only [backN, rowN]
      rw [if_neg (by decide), if_neg (by decide), if_neg (by decide)]
      exact back_fall ps false f g hv
  | .bad, _, _, _, h => by simp [valid] at h
theorem back_rise : ∀ (ps : List Nest) (k : Bool) (f g : Int), validL k ps = true → Inv2 (rowsN ps f).flatten f (rowsN (backL ps) g).flatten g
  | [], _, _, _, _ => ⟨rfl, fun i w e => by simp [rowsN] at e⟩
  | n :: r, k, f, g, h => by
    simp only [validL, Bool.and_eq_true] at h
    have h1 := back_row n (some k) f g h.1
    have h2 := back_rise r k (f + ((rowN n f).length : Int)) (g + ((rowN n f).length : Int)) h.2
    simp only [backL, rowsN, List.flatten_cons]
    rw [← h1.1]
    exact h1.rise h2
theorem back_fall : ∀ (ps : List Nest) (k : Bool) (f g : Int), validL k ps = true → Inv2 (rowsN ps f).reverse.flatten f (rowsN (backL ps).reverse g).reverse.flatten g
  | [], _, _, _, _ => ⟨rfl, fun i w e => by simp [rowsN] at e⟩
  | n :: r, k, f, g, h => by
    simp only [validL, Bool.and_eq_true] at h
    have h2 := back_fall r k (f + ((rowN n f).length : Int)) g h.2
    have e0 : ((rowsN (backL r).reverse g).flatten.length : Int) = ((rowsN r (f + ((rowN n f).length : Int))).reverse.flatten.length : Int) := by
      rw [h2.1, (flat_rev_perm _).length_eq]
    have h1 := back_row n (some k) f (g + ((rowsN r (f + ((rowN n f).length : Int))).reverse.flatten.length : Int)) h.1
    simp only [backL, rowsN, List.reverse_cons, List.flatten_append]
    rw [rowsN_snoc, List.reverse_append, List.flatten_append, e0]
    simp only [List.reverse_singleton, List.flatten_cons, List.flatten_nil, List.append_nil]
    exact h1.fall h2
end
end Tn
namespace L2
open PySem PySem.Spec PyProof PyProof.Rows Tn
theorem DEq.mono {K : PySem.W.Frag} {H : Hp} : ∀ {d : Nat} {x y : V} {b : Bool}, DEq K H d x y b → ∀ {e : Nat}, d ≤ e → DEq K H e x y b := by
  intro d x y b h
  induction h with
  | flat hx hy => intro e _; exact .flat hx hy
  | same => intro e _; exact .same
  | tup hab ha hb he ih =>
    intro e h
    obtain ⟨e', rfl⟩ : ∃ e', e = e' + 1 := ⟨e - 1, by omega⟩
    exact .tup hab ha hb fun j x y h1 h2 => ih j x y h1 h2 (by omega)
  | tupStr ha =>
    intro e h
    obtain ⟨e', rfl⟩ : ∃ e', e = e' + 1 := ⟨e - 1, by omega⟩
    exact .tupStr ha
mutual
theorem nest_deq {K : PySem.W.Frag} {H : Hp} : ∀ {n : Nest} {o : Option Bool} {x y : V}, NestAt K H n x → NestAt K H n y → valid o n = true → DEq K H (2 * depthN n) x y true
  | .word, _, x, y, hx, hy, _ => by
    have hx : x = .non := hx
    have hy : y = .non := hy
    subst hx hy
    exact .flat rfl rfl
  | .knot k ps, _, x, y, ⟨a, b, vs, e, ea, eb, h2, h3, hp⟩, ⟨a', b', vs', e', ea', eb', h2', h3', hp'⟩, hv => by
    subst e e'
    have hvp : validL k ps = true := by simp only [valid, Bool.and_eq_true] at hv; exact hv.2
    rw [depthN, show 2 * (1 + depthL ps) = (2 * depthL ps + 1) + 1 by omega]
    by_cases haa : a = a'
    · subst haa; exact .same
    · refine deq_all (e := fun _ => true) haa (SqT.of ea) (SqT.of ea') rfl (fun j x y h1 h2 => ?_) (by simp)
      match j, h1, h2 with
      | 0, h1, h2 =>
        have h1 : x = .str (kS k) := by simpa using h1.symm
        have h2 : y = .str (kS k) := by simpa using h2.symm
        subst h1 h2
        have := DEq.flat (K := K) (H := H) (d := 2 * depthL ps + 1) (x := .str (kS k)) (y := .str (kS k)) rfl rfl
        have e1 : eqV (.str (kS k)) (.str (kS k)) = true := by simp [eqV]
        rwa [e1] at this
      | 1, h1, h2 =>
        have h1 : x = .ref b := by simpa using h1.symm
        have h2 : y = .ref b' := by simpa using h2.symm
        subst h1 h2
        by_cases hbb : b = b'
        · subst hbb; exact .same
        · have l1 := hp.len
          have l2 := hp'.len
          exact deq_all (e := fun _ => true) hbb (SqT.of eb) (SqT.of eb') (by omega) (fun j x y h1 h2 => nests_deq hp hp' hvp h1 h2) (by simp)
      | j + 2, h1, _ => simp at h1
  | .bad, _, _, _, _, _, h => by simp [valid] at h
theorem nests_deq {K : PySem.W.Frag} {H : Hp} : ∀ {ps : List Nest} {k : Bool} {xs ys : List V}, NestsAt K H ps xs → NestsAt K H ps ys → validL k ps = true → ∀ {j : Nat} {x y : V}, xs[j]? = some x → ys[j]? = some y → DEq K H (2 * depthL ps) x y true
  | [], _, xs, _, hx, _, _, j, x, y, h1, _ => by have hx : xs = [] := hx; subst hx; simp at h1
  | n :: r, k, _, _, ⟨v, vr, e, h1, h2⟩, ⟨v', vr', e', h1', h2'⟩, hv, j, x, y, hj, hj' => by
    subst e e'
    simp only [validL, Bool.and_eq_true] at hv
    rw [depthL]
    match j, hj, hj' with
    | 0, hj, hj' =>
      have a1 : v = x := by simpa using hj
      have a2 : v' = y := by simpa using hj'
      subst a1 a2
      exact (nest_deq h1 h1' hv.1).mono (by have := Nat.le_max_left (depthN n) (depthL r); exact Nat.mul_le_mul_left 2 this)
    | j + 1, hj, hj' =>
      exact (nests_deq h2 h2' hv.2 (j := j) (by simpa using hj) (by simpa using hj')).mono (by have := Nat.le_max_right (depthN n) (depthL r); exact Nat.mul_le_mul_left 2 this)
end
def rNeN (K : PySem.W.Frag) : R2 := fun x y H Q => ∃ (n : Nest) (o : Option Bool), NestAt K H n x ∧ NestAt K H n y ∧ valid o n = true ∧ depthN n ≤ 60 ∧ Q (.bl false) H
end L2
namespace Tn
open PySem L2
def spBacked (K : PySem.W.Frag) (g : Nest → Nest) (d : Nat) : Sp := fun vs H Q _ => ∃ (v : V) (n : Nest) (o : Option Bool), vs = [v] ∧ NestAt K H n v ∧ valid o n = true ∧ depthN n < d ∧ ∀ (v' : V) (H' : Hp), NestAt K H' (g n) v' → Same H H' → Q v' H'
def spBackNest (K : PySem.W.Frag) (C : Addr) (g : Nest → Nest) : Sp := fun vs H Q E => ∃ (v : V) (n : Nest), vs = [v] ∧ NestAt K H n v ∧ (okN n = true → ∀ (v' : V) (H' : Hp), NestAt K H' (g n) v' → Same H H' → Q v' H') ∧ (okN n = false → ∀ H', Same H H' → E (.ref C) none H')
theorem NestsAt.rev {K : PySem.W.Frag} {H : Hp} : ∀ {ns : List Nest} {vs : List V}, NestsAt K H ns vs → NestsAt K H ns.reverse vs.reverse
  | [], _, h => by have h : _ = [] := h; subst h; exact rfl
  | _ :: _, _, ⟨v, vr, e, h1, h2⟩ => by
    subst e
    rw [List.reverse_cons, List.reverse_cons]
    exact NestsAt.app (NestsAt.rev h2) (NestsAt.one h1)
end Tn
namespace Tn
open PySem L2
def shareL {α : Type} : List Nest → List α → List (List α)
  | [], _ => []
  | n :: r, xs => xs.take (words n) :: shareL r (xs.drop (words n))
theorem shareL_len {α : Type} : ∀ (ps : List Nest) (xs : List α), (shareL ps xs).length = ps.length
  | [], _ => rfl
  | n :: r, xs => by rw [shareL, List.length_cons, shareL_len r]; rfl
def closeK (k : Bool) (qs : List Nest) : List Nest := if qs.length < 2 then qs else [.knot k (qs.flatMap (partsOf k))]
mutual
def leftP : Nest → List Bool → List Nest
  | .word, bs => if bs.headD false then [.word] else []
  | .knot k ps, bs => closeK k (leftPs ps bs)
  | .bad, _ => []
def leftPs : List Nest → List Bool → List Nest
  | [], _ => []
  | n :: r, bs => leftP n (bs.take (words n)) ++ leftPs r (bs.drop (words n))
end
theorem rowsN_app : ∀ (A B : List Nest) (g : Int), rowsN (A ++ B) g = rowsN A g ++ rowsN B (g + ((rowsN A g).flatten.length : Int))
  | [], B, g => by simp [rowsN]
  | n :: A, B, g => by
    rw [List.cons_append, rowsN, rowsN_app A B, rowsN, List.cons_append, List.flatten_cons, List.length_append]
    congr 3
    omega
theorem leftP_le : ∀ (n : Nest) (bs : List Bool), (leftP n bs).length ≤ 1
  | .word, bs => by rw [leftP]; split <;> simp
  | .knot k ps, bs => by
    rw [leftP, closeK]
    split
    · omega
    · simp
  | .bad, _ => by simp [leftP]
theorem joinL_valid {k : Bool} : ∀ {qs : List Nest}, (∀ q ∈ qs, valid none q = true) → validL k (qs.flatMap (partsOf k)) = true ∧ wordsL (qs.flatMap (partsOf k)) = wordsL qs
  | [], _ => by simp [validL, wordsL]
  | q :: r, h => by
    have h1 := parts_valid (k := k) (h q List.mem_cons_self)
    have h2 := joinL_valid (k := k) (qs := r) fun x hx => h x (List.mem_cons_of_mem _ hx)
    rw [List.flatMap_cons, validL_app, wordsL_app, h1.1, h2.1, h1.2, h2.2]
    exact ⟨rfl, rfl⟩
theorem closeK_valid {k : Bool} {qs : List Nest} (h : ∀ q ∈ qs, valid none q = true) : (∀ q ∈ closeK k qs, valid none q = true) ∧ wordsL (closeK k qs) = wordsL qs := by
  unfold closeK
  split
  · exact ⟨h, rfl⟩
  · have := joinL_valid (k := k) h
    refine ⟨fun q hq => ?_, ?_⟩
    · rw [List.mem_singleton.mp hq]
      simp [valid, this.1]
    · simp only [wordsL, words, this.2]
      omega
mutual
theorem leftP_valid : ∀ (n : Nest) (o : Option Bool) (bs : List Bool), valid o n = true → bs.length = words n → (∀ q ∈ leftP n bs, valid none q = true) ∧ wordsL (leftP n bs) = bs.count true
  | .word, _, bs, _, hl => by
    rw [words] at hl
    match bs, hl with
    | [b], _ => cases b <;> simp [leftP, valid, wordsL, words]
  | .knot k ps, o, bs, hv, hl => by
    have hvp : validL k ps = true := by simp only [valid, Bool.and_eq_true] at hv; exact hv.2
    have h := leftPs_valid ps k bs hvp (by rw [hl, words])
    have h2 := closeK_valid (k := k) h.1
    rw [leftP]
    exact ⟨h2.1, by rw [h2.2, h.2]⟩
  | .bad, _, _, hv, _ => by simp [valid] at hv
theorem leftPs_valid : ∀ (ps : List Nest) (k : Bool) (bs : List Bool), validL k ps = true → bs.length = wordsL ps → (∀ q ∈ leftPs ps bs, valid none q = true) ∧ wordsL (leftPs ps bs) = bs.count true
  | [], _, bs, _, hl => by
    rw [wordsL] at hl
    rw [List.length_eq_zero_iff.mp hl]
    simp [leftPs, wordsL]
  | n :: r, k, bs, hv, hl => by
    simp only [validL, Bool.and_eq_true] at hv
    rw [wordsL] at hl
    have h1 := leftP_valid n (some k) (bs.take (words n)) hv.1 (by rw [List.length_take]; omega)
    have h2 := leftPs_valid r k (bs.drop (words n)) hv.2 (by rw [List.length_drop]; omega)
    rw [leftPs]
    refine ⟨fun q hq => ?_, ?_⟩
    · rcases List.mem_append.mp hq with h | h
      · exact h1.1 q h
      · exact h2.1 q h
    · rw [wordsL_app, h1.2, h2.2, ← List.count_append, List.take_append_drop]
end
theorem parts_row {k : Bool} (q : Nest) (g : Int) : (seenB k (rowsN (partsOf k q) g)).flatten = rowN q g := by
  have one : (seenB k (rowsN [q] g)).flatten = rowN q g := by
    unfold seenB
    simp [rowsN]
  cases q with
  | knot k' ps =>
    unfold partsOf
    dsimp only
    split
    · rename_i h
      subst h
      rw [row_seen]
    · exact one
  | word => exact one
  | bad => exact one
theorem seenB_len (k : Bool) (rs : List (List Int)) : (seenB k rs).flatten.length = rs.flatten.length := by
  unfold seenB
  split
  · rfl
  · exact (flat_rev_perm rs).length_eq
theorem seenB_app (k : Bool) (a b : List (List Int)) : (seenB k (a ++ b)).flatten = if k then (seenB k a).flatten ++ (seenB k b).flatten else (seenB k b).flatten ++ (seenB k a).flatten := by
  cases k <;> simp [seenB]
theorem join_rows {k : Bool} : ∀ (qs : List Nest) (g : Int), (seenB k (rowsN (qs.flatMap (partsOf k)) g)).flatten = (seenB k (rowsN qs g)).flatten
  | [], g => rfl
  | q :: r, g => by
    have hl : ((rowsN (partsOf k q) g).flatten.length : Int) = ((rowN q g).length : Int) := by rw [← seenB_len k, parts_row]
    rw [List.flatMap_cons, rowsN_app, seenB_app, parts_row, hl, join_rows r, show rowsN (q :: r) g = rowsN [q] g ++ rowsN r (g + ((rowN q g).length : Int)) by simp [rowsN], seenB_app]
    have : (seenB k (rowsN [q] g)).flatten = rowN q g := by unfold seenB; simp [rowsN]
    rw [this]
theorem closeK_rows {k : Bool} (qs : List Nest) (g : Int) : (rowsN (closeK k qs) g).flatten = (seenB k (rowsN qs g)).flatten := by
  unfold closeK
  split
  · rename_i h
    match qs, h with
    | [], _ => simp [rowsN, seenB]
    | [q], _ => unfold seenB; simp [rowsN]
  · simp only [rowsN, List.flatten_cons, List.flatten_nil, List.append_nil]
    rw [row_seen, join_rows]
def keepB (f : Int) (bs : List Bool) (w : Int) : Bool := (bs[(w - f).toNat]?).getD false
def newN (f g : Int) (bs : List Bool) (w : Int) : Int := g + ((bs.take (w - f).toNat).count true : Int)
def keepF (f g : Int) (bs : List Bool) (l : List Int) : List Int := (l.filter (keepB f bs)).map (newN f g bs)
theorem keepF_app (f g : Int) (bs : List Bool) (a b : List Int) : keepF f g bs (a ++ b) = keepF f g bs a ++ keepF f g bs b := by
  unfold keepF; rw [List.filter_append, List.map_append]
theorem keepF_head {f g : Int} {bs : List Bool} {m : Nat} {l : List Int} (h : ∀ w ∈ l, f ≤ w ∧ w < f + (m : Int)) : keepF f g bs l = keepF f g (bs.take m) l := by
  induction l with
  | nil => rfl
  | cons w l ih =>
    have hw := h w List.mem_cons_self
    have ih := ih fun x hx => h x (List.mem_cons_of_mem _ hx)
    have e1 : keepB f bs w = keepB f (bs.take m) w := by
      unfold keepB
      rw [List.getElem?_take_of_lt (by omega)]
    have e2 : newN f g bs w = newN f g (bs.take m) w := by
      unfold newN
      rw [List.take_take, Nat.min_eq_left (by omega)]
    show keepF f g bs ([w] ++ l) = keepF f g (bs.take m) ([w] ++ l)
    rw [keepF_app, keepF_app, ih]
    congr 1
    unfold keepF
    simp only [List.filter_cons, List.filter_nil, e1]
    split <;> simp [e2]
theorem keepF_tail {f g : Int} {bs : List Bool} {m : Nat} {l : List Int} (hm : m ≤ bs.length) (h : ∀ w ∈ l, f + (m : Int) ≤ w) : keepF f g bs l = keepF (f + (m : Int)) (g + ((bs.take m).count true : Int)) (bs.drop m) l := by
  induction l with
  | nil => rfl
  | cons w l ih =>
    have hw := h w List.mem_cons_self
    have ih := ih fun x hx => h x (List.mem_cons_of_mem _ hx)
    have e1 : keepB f bs w = keepB (f + (m : Int)) (bs.drop m) w := by
      unfold keepB
      rw [List.getElem?_drop]
      congr 2
      omega
    have e2 : newN f g bs w = newN (f + (m : Int)) (g + ((bs.take m).count true : Int)) (bs.drop m) w := by
      unfold newN
      have : (w - f).toNat = m + (w - (f + (m : Int))).toNat := by omega
      rw [this, List.take_add, List.count_append]
      omega
    show keepF f g bs ([w] ++ l) = keepF (f + (m : Int)) (g + ((bs.take m).count true : Int)) (bs.drop m) ([w] ++ l)
    rw [keepF_app, keepF_app, ih]
    congr 1
    unfold keepF
    simp only [List.filter_cons, List.filter_nil, e1]
    split <;> simp [e2]
theorem rows_mem {ps : List Nest} {k : Bool} {f w : Int} (hv : validL k ps = true) (h : w ∈ (rowsN ps f).flatten) : f ≤ w ∧ w < f + (wordsL ps : Int) := by
  have := (rows_perm ps k f hv).mem_iff.mp h
  unfold fromTo upto at this
  simp only [List.mem_map, List.mem_range] at this
  obtain ⟨z, ⟨i, hi, rfl⟩, rfl⟩ := this
  omega
mutual
theorem left_rows : ∀ (n : Nest) (o : Option Bool) (bs : List Bool) (f g : Int), valid o n = true → bs.length = words n → (rowsN (leftP n bs) g).flatten = keepF f g bs (rowN n f)
  | .word, _, bs, f, g, _, hl => by
    rw [words] at hl
    match bs, hl with
    | [b], _ => cases b <;> simp [leftP, rowsN, rowN, keepF, keepB, newN]
  | .knot k ps, o, bs, f, g, hv, hl => by
    have hvp : validL k ps = true := by simp only [valid, Bool.and_eq_true] at hv; exact hv.2
    rw [leftP, closeK_rows, row_seen]
    exact left_rowsL ps k k bs f g hvp (by rw [hl, words])
  | .bad, _, _, _, _, hv, _ => by simp [valid] at hv
theorem left_rowsL : ∀ (ps : List Nest) (k b : Bool) (bs : List Bool) (f g : Int), validL k ps = true → bs.length = wordsL ps → (seenB b (rowsN (leftPs ps bs) g)).flatten = keepF f g bs (seenB b (rowsN ps f)).flatten
  | [], _, b, _, _, _, _, _ => by cases b <;> rfl
  | n :: r, k, b, bs, f, g, hv, hl => by
    simp only [validL, Bool.and_eq_true] at hv
    rw [wordsL] at hl
    have hb1 : (bs.take (words n)).length = words n := by rw [List.length_take]; omega
    have h1 := left_rows n (some k) (bs.take (words n)) f g hv.1 hb1
    have hln : (rowN n f).length = words n := row_len f hv.1
    have h2 := left_rowsL r k b (bs.drop (words n)) (f + (words n : Int)) (g + ((bs.take (words n)).count true : Int)) hv.2 (by rw [List.length_drop]; omega)
    have hc : ((rowsN (leftP n (bs.take (words n))) g).flatten.length : Int) = ((bs.take (words n)).count true : Int) := by
      have hq := leftP_valid n (some k) (bs.take (words n)) hv.1 hb1
      rw [← hq.2]
      have hle := leftP_le n (bs.take (words n))
      match hz : leftP n (bs.take (words n)), hle with
      | [], _ => simp [rowsN, wordsL]
      | [q], _ =>
        have := hq.1 q (by rw [hz]; exact List.mem_cons_self)
        simp [rowsN, wordsL, row_len g this]
    have hA : (seenB b (rowsN (leftP n (bs.take (words n))) g)).flatten = (rowsN (leftP n (bs.take (words n))) g).flatten := by
      have hle := leftP_le n (bs.take (words n))
      match leftP n (bs.take (words n)), hle with
      | [], _ => cases b <;> rfl
      | [q], _ => unfold seenB; simp [rowsN]
    rw [leftPs, rowsN_app, seenB_app, hc, h2, hA, h1, show rowsN (n :: r) f = rowsN [n] f ++ rowsN r (f + ((rowN n f).length : Int)) by simp [rowsN], seenB_app, hln]
    have hone : (seenB b (rowsN [n] f)).flatten = rowN n f := by unfold seenB; simp [rowsN]
    rw [hone]
    have e1 : keepF f g bs (rowN n f) = keepF f g (bs.take (words n)) (rowN n f) := keepF_head fun w hw => row_mem hv.1 hw
    have e2 : keepF f g bs (seenB b (rowsN r (f + (words n : Int)))).flatten = keepF (f + (words n : Int)) (g + ((bs.take (words n)).count true : Int)) (bs.drop (words n)) (seenB b (rowsN r (f + (words n : Int)))).flatten := by
      refine keepF_tail (by omega) fun w hw => ?_
      have : w ∈ (rowsN r (f + (words n : Int))).flatten := by
        unfold seenB at hw
        split at hw
        · exact hw
        · exact (flat_rev_perm _).mem_iff.mp hw
      exact (rows_mem hv.2 this).1
    cases b
    · simp only [Bool.false_eq_true, if_false]
      rw [keepF_app, e1, e2]
    · simp only [if_true]
      rw [keepF_app, e1, e2]
end
def marks (ws : List Int) (m : Nat) : List Bool := (List.range m).map fun (i : Nat) => decide ((i : Int) ∈ ws)
end Tn
namespace Tn
open PySem L2
def VLs (H : Hp) (rs : List Addr) (xss : List (List V)) : Prop := Paired (fun r xs => H r = some (.lst xs)) rs xss
theorem VLs.len {H : Hp} : ∀ {rs : List Addr} {xss : List (List V)}, VLs H rs xss → rs.length = xss.length
  | _, _, .nil => rfl
  | _, _, .cons _ t => congrArg (· + 1) (VLs.len t)
theorem VLs.get {H : Hp} : ∀ {rs : List Addr} {xss : List (List V)} {i : Nat} {p : Addr}, VLs H rs xss → rs[i]? = some p → ∃ xs, xss[i]? = some xs ∧ H p = some (.lst xs)
  | _, _, _, _, .nil, e => by simp at e
  | _, _, 0, _, .cons h _, e => by simp at e; subst e; exact ⟨_, rfl, h⟩
  | _, _, i + 1, p, .cons _ t, e => by
    obtain ⟨x, h1, h2⟩ := VLs.get (i := i) (p := p) t (by simpa using e)
    exact ⟨x, by simpa using h1, h2⟩
theorem VLs.mono {H H' : Hp} (s : Same H H') : ∀ {rs : List Addr} {xss : List (List V)}, VLs H rs xss → VLs H' rs xss
  | _, _, .nil => .nil
  | _, _, .cons h t => .cons (s _ _ h) (VLs.mono s t)
theorem VLs.upd {H : Hp} {l : Addr} {o : HO} : ∀ {rs : List Addr} {xss : List (List V)}, l ∉ rs → VLs H rs xss → VLs (L2.upd H l o) rs xss
  | _, _, _, .nil => .nil
  | p :: _, _ :: _, hn, .cons h t => .cons (by rw [upd_ne (fun z => hn (by rw [← z]; exact List.mem_cons_self))]; exact h) (VLs.upd (fun z => hn (List.mem_cons_of_mem _ z)) t)
theorem VLs.app {H : Hp} : ∀ {rs qs : List Addr} {xss yss : List (List V)}, VLs H rs xss → VLs H qs yss → VLs H (rs ++ qs) (xss ++ yss)
  | _, _, _, _, .nil, h => h
  | _, _, _, _, .cons a t, h => .cons a (VLs.app t h)
def ofK (k : Bool) : Nest → Bool
  | .knot k' _ => decide (k' = k)
  | _ => false
def spOfKind (K : PySem.W.Frag) : Sp := fun vs H Q _ => ∃ (v : V) (n : Nest) (o : Option Bool) (k : Bool), vs = [v, .str (kS k)] ∧ NestAt K H n v ∧ valid o n = true ∧ Q (.bl (ofK k n)) H
def spShared (K : PySem.W.Frag) (d : Nat) : Sp := fun vs H Q _ => ∃ (a l : Addr) (k : Bool) (ps : List Nest) (xs : List V), vs = [.ref a, .ref l] ∧ NestAt K H (.knot k ps) (.ref a) ∧ validL k ps = true ∧ depthL ps < d ∧ SqL K H l xs ∧ xs.length ≤ 1000 ∧ wordsL ps ≤ xs.length ∧
  ∀ (sh : Addr) (rs : List Addr) (H' : Hp), H sh = none → H' sh = some (.lst (rs.map V.ref)) → VLs H' rs (shareL ps xs) → Same H H' → Q (.ref sh) H'
def spKnotOf (K : PySem.W.Frag) : Sp := fun vs H Q _ => ∃ (l : Addr) (k : Bool) (ns : List Nest) (us : List V), vs = [.str (kS k), .ref l] ∧ H l = some (.lst us) ∧ NestsAt K H ns us ∧ (∀ n ∈ ns, valid none n = true) ∧ wordsL ns ≤ 900 ∧ 2 ≤ ns.length ∧
  ∀ (v : V) (H' : Hp), NestAt K H' (.knot k (ns.flatMap (partsOf k))) v → Same H H' → Q v H'
def spLeftP (K : PySem.W.Frag) (d : Nat) : Sp := fun vs H Q _ => ∃ (v : V) (l : Addr) (n : Nest) (o : Option Bool) (bs : List Bool), vs = [v, .ref l] ∧ NestAt K H n v ∧ valid o n = true ∧ depthN n < d ∧ words n ≤ 60 ∧ SqL K H l (bs.map V.bl) ∧ bs.length = words n ∧
  ∀ (p : Addr) (us : List V) (H' : Hp), H p = none → H' p = some (.lst us) → NestsAt K H' (leftP n bs) us → Same H H' → Q (.ref p) H'
def ahead (ps : List Nest) (i : Nat) : Nat := wordsL (ps.take i)
theorem ahead_succ {ps : List Nest} {i : Nat} {n : Nest} (h : ps[i]? = some n) : ahead ps (i + 1) = ahead ps i + words n := by
  unfold ahead
  rw [List.take_succ, h, wordsL_app]
  simp [wordsL]
theorem ahead_le (ps : List Nest) (i : Nat) : ahead ps i ≤ wordsL ps := by
  have := wordsL_app (ps.take i) (ps.drop i)
  rw [List.take_append_drop] at this
  unfold ahead
  omega
theorem shareL_get {α : Type} : ∀ {ps : List Nest} {xs : List α} {i : Nat} {n : Nest}, ps[i]? = some n → (shareL ps xs)[i]? = some ((xs.drop (ahead ps i)).take (words n))
  | [], _, _, _, h => by simp at h
  | m :: r, xs, 0, n, h => by simp at h; subst h; simp [shareL, ahead, wordsL]
  | m :: r, xs, i + 1, n, h => by
    have := shareL_get (ps := r) (xs := xs.drop (words m)) (i := i) (n := n) (by simpa using h)
    simp only [shareL, List.getElem?_cons_succ, this]
    rw [List.drop_drop, show words m + ahead r i = ahead (m :: r) (i + 1) by unfold ahead; simp only [List.take_succ_cons, wordsL]]
theorem shareL_take {α : Type} {ps : List Nest} {xs : List α} {i : Nat} {n : Nest} (h : ps[i]? = some n) : (shareL ps xs).take (i + 1) = (shareL ps xs).take i ++ [(xs.drop (ahead ps i)).take (words n)] := by
  rw [List.take_succ, shareL_get h]
  rfl
end Tn
namespace L2
open PySem PySem.Spec PyProof PyProof.Rows
section
variable {X : Cx}
theorem strsAre_of : ∀ {xs : List Str} {us : List Value}, Vals (xs.map V.str) us → StrsAre us xs
  | [], _, r => by cases r; exact .nil
  | x :: xs, _, r => by
    cases r with
    | cons rx rr =>
      obtain ⟨t, rfl⟩ := rx
      exact .cons x t (strsAre_of rr)
def rJoin (K : PySem.W.Frag) : V → List V → Hp → VK → Prop := fun x vs H Q => ∃ (sep : Str) (b : Addr) (xs : List Str), x = .str sep ∧ vs = [.ref b] ∧ SqL K H b (xs.map V.str) ∧ (xs.map (·.length)).sum + xs.length * sep.length ≤ 16777216 ∧ Q (.str (Txt.join sep xs)) H
theorem mt_join : MtM X "str.join" (rJoin X.K) := by
  intro pins s σ H x vs v us Q I rx rv h
  obtain ⟨sep, b, xs, rfl, rfl, hb, hz, q⟩ := h
  obtain ⟨t, rfl⟩ := rx
  obtain ⟨u, rfl, ru⟩ := vals1 rv
  cases ru
  obtain ⟨its, r, pl, _⟩ := I.list hb
  exact join_list pl.isList (by simpa using strsAre_of r) hz fun t' k => ⟨.str _, H, I.tok _, ⟨_, rfl⟩, q⟩
def rCountS : V → List V → Hp → VK → Prop := fun x vs H Q => ∃ (i j : Str), x = .str i ∧ vs = [.str j] ∧ Q (.int (Txt.count i j)) H
def rSlS : V → Option Int → Option Int → Hp → VK → Prop := fun x lo hi H Q => ∃ i : Str, x = .str i ∧ i.length ≤ sizeLine ∧ Q (.str (Txt.slice i lo hi)) H
theorem fold_rep (a : Array Nat) : ∀ (n : Nat) (acc : Array Nat), ((List.replicate n a).foldl (· ++ ·) acc).toList = acc.toList ++ (List.replicate n a.toList).flatten
  | 0, acc => by simp
  | n + 1, acc => by
    rw [List.replicate_succ, List.foldl_cons, fold_rep a n, List.replicate_succ, List.flatten_cons, Array.toList_append, List.append_assoc]
def repS (i : Str) (n : Nat) : Str := ⟨(List.replicate n i.cps).foldl (· ++ ·) #[]⟩
def rRepS : R2 := fun x y H Q => ∃ (i : Str) (n : Nat), x = .str i ∧ y = .int (n : Int) ∧ i.length ≤ 1000 ∧ n ≤ 1000 ∧ Q (.str (repS i n)) H
theorem op_repS : OpR X (binaryOp .Mult) rRepS := by
  intro pins s σ H x y v u Q I rx ry h
  obtain ⟨i, n, rfl, rfl, hi, hn, q⟩ := h
  obtain ⟨t, rfl⟩ := rx
  obtain ⟨t', rfl⟩ := ry
  have hmul : i.length * n ≤ 1000 * 1000 := Nat.mul_le_mul hi hn
  have fin : ∀ (z : Str), z = repS i n → ∀ tk k, EP X pins σ Q (.str z tk) { s with toks := k } := fun z hz tk k => ⟨.str _, H, I.tok _, ⟨_, rfl⟩, hz ▸ q⟩
  refine PySem.P.mul_str (by rw [decide_eq_false (by omega), decide_eq_false (by omega)]; rfl) (fun h1 _ => ?_) (fun _ _ => ?_) ?_
  · intro h2
    have h3 : (i.length : Int) * (n : Int) ≤ 1000000 := by
      have := Int.ofNat_le.mpr hmul
      simpa using this
    have h4 : (2 ^ 63 - 1 : Int) / (n : Int) < (i.length : Int) := h2
    have h5 := (Int.ediv_lt_iff_lt_mul (by omega)).mp h4
    omega
  · rw [show ((n : Int)).toNat = n by omega]
    unfold PySem.Builtin.Str.tooLong sizeLine
    exact decide_eq_false (by omega)
  · by_cases h1 : (n : Int) < 1
    · rw [if_pos h1]
      have : n = 0 := by omega
      subst this
      exact ⟨by decide, fin _ rfl _ _⟩
    · rw [if_neg h1]
      by_cases h2 : (((n : Int)) == 1 || i.length == 0) = true
      · rw [if_pos h2]
        refine fin i ?_ t s.toks
        have e : i.cps.toList = (repS i n).cps.toList := by
          unfold repS
          rw [fold_rep]
          rcases Bool.or_eq_true_iff.mp h2 with h | h
          · have : n = 1 := by have := eq_of_beq h; omega
            subst this
            simp
          · have : i.cps = #[] := Array.eq_empty_of_size_eq_zero (eq_of_beq h)
            rw [this]
            simp
        exact congrArg Str.mk (Array.toList_inj.mp e)
      · rw [if_neg h2]
        refine ⟨?_, fin _ (by rw [show ((n : Int)).toNat = n by omega]; rfl) _ _⟩
        show ((List.replicate ((n : Int)).toNat i.cps).foldl (· ++ ·) #[]).size ≤ sizeLine
        rw [show ((n : Int)).toNat = n by omega, ← Array.length_toList, fold_rep]
        have : i.cps.size = i.length := rfl
        simp [this, sizeLine_eq]
        rw [Nat.mul_comm]
        omega
end
end L2
namespace Tn
open PySem L2
mutual
def txN : Nest → List Nat
  | .word => [46]
  | .bad => []
  | .knot k ps => 40 :: (if k then 43 else 45) :: (txL ps ++ [41])
def txL : List Nest → List Nat
  | [] => []
  | n :: r => txN n ++ txL r
end
inductive RSt where
  | done (r : Option (List Nest))
  | more (cs : List Nat) (ks : List Bool) (pss : List (List Nest))
def mkN (k : Bool) (ps : List Nest) : Nest := if ps.length < 2 then .bad else .knot k ps
def stepR (strict : Bool) : List Nat → List Bool → List (List Nest) → RSt
  | [], [], [p] => .done (some p)
  | [], _, _ => .done none
  | 46 :: r, ks, p :: pss => .more r ks ((p ++ [.word]) :: pss)
  | 40 :: 43 :: r, ks, pss => .more r (true :: ks) ([] :: pss)
  | 40 :: 45 :: r, ks, pss => .more r (false :: ks) ([] :: pss)
  | 41 :: r, k :: ks, p :: q :: pss => if strict = true ∧ (p.length < 2 ∨ ks.head? = some k) then .done none else .more r ks ((q ++ [mkN k p]) :: pss)
  | _, _, _ => .done none
theorem step_len {s : Bool} {cs cs' : List Nat} {ks ks' : List Bool} {pss pss' : List (List Nest)} (h : stepR s cs ks pss = .more cs' ks' pss') : cs'.length < cs.length := by
  unfold stepR at h
  split at h <;> first | (cases h; simp only [List.length_cons]; omega) | (split at h <;> first | (cases h; simp only [List.length_cons]; omega) | cases h) | cases h
def runR (s : Bool) : Nat → List Nat → List Bool → List (List Nest) → Option (List Nest)
  | 0, _, _, _ => none
  | n + 1, cs, ks, pss => match stepR s cs ks pss with
    | .done r => r
    | .more cs' ks' pss' => runR s n cs' ks' pss'
theorem run_fuel (s : Bool) : ∀ (n m : Nat) (cs : List Nat) (ks : List Bool) (pss : List (List Nest)), cs.length < n → cs.length < m → runR s n cs ks pss = runR s m cs ks pss
  | 0, _, _, _, _, h, _ => absurd h (Nat.not_lt_zero _)
  | _ + 1, 0, _, _, _, _, h => absurd h (Nat.not_lt_zero _)
  | n + 1, m + 1, cs, ks, pss, h1, h2 => by
    rw [runR, runR]
    cases e : stepR s cs ks pss with
    | done r => rfl
    | more cs' ks' pss' =>
      have := step_len e
      exact run_fuel s n m cs' ks' pss' (by omega) (by omega)
def readG (s : Bool) (cs : List Nat) (ks : List Bool) (pss : List (List Nest)) : Option (List Nest) := runR s (cs.length + 1) cs ks pss
theorem read_more {s : Bool} {cs cs' : List Nat} {ks ks' : List Bool} {pss pss' : List (List Nest)} (h : stepR s cs ks pss = .more cs' ks' pss') : readG s cs ks pss = readG s cs' ks' pss' := by
  have := step_len h
  unfold readG
  rw [runR, h]
  exact run_fuel s _ _ cs' ks' pss' (by omega) (by omega)
def allV (o : Option Bool) (p : List Nest) : Bool := p.all (valid o)
def frV : List Bool → List (List Nest) → Bool
  | [], [p] => allV none p
  | k :: ks, p :: pss => allV (some k) p && frV ks pss
  | _, _ => false
mutual
theorem read_tx : ∀ {n : Nest} {ks : List Bool} {p : List Nest} {pss : List (List Nest)} {cs : List Nat}, fit n = true → readG false (txN n ++ cs) ks (p :: pss) = readG false cs ks ((p ++ [n]) :: pss)
  | .word, ks, p, pss, cs, _ => read_more (show stepR false (46 :: cs) ks (p :: pss) = _ from rfl)
  | .bad, _, _, _, _, h => by simp [fit] at h
  | .knot k qs, ks, p, pss, cs, h => by
    simp only [fit, Bool.and_eq_true, decide_eq_true_eq] at h
    have h1 : readG false (txN (.knot k qs) ++ cs) ks (p :: pss) = readG false (txL qs ++ (41 :: cs)) (k :: ks) ([] :: p :: pss) := by
      cases k
      · refine read_more ?_
        simp [txN, stepR]
      · refine read_more ?_
        simp [txN, stepR]
    rw [h1, read_txL h.2, List.nil_append]
    refine read_more ?_
    simp [stepR, mkN, show ¬ qs.length < 2 by omega]
theorem read_txL : ∀ {ps : List Nest} {ks : List Bool} {p : List Nest} {pss : List (List Nest)} {cs : List Nat}, fitL ps = true → readG false (txL ps ++ cs) ks (p :: pss) = readG false cs ks ((p ++ ps) :: pss)
  | [], ks, p, pss, cs, _ => by simp [txL]
  | n :: r, ks, p, pss, cs, h => by
    simp only [fitL, Bool.and_eq_true] at h
    rw [txL, List.append_assoc, read_tx h.1, read_txL h.2]
    simp
end
def dots (cs : List Nat) : Nat := (cs.filter (· == 46)).length
def txS (n : Nest) : Str := ⟨(txN n).toArray⟩
mutual
theorem tx_len : ∀ {n : Nest}, fit n = true → (txN n).length + 3 ≤ 4 * words n
  | .word, _ => by decide
  | .bad, h => by simp [fit] at h
  | .knot k ps, h => by
    simp only [fit, Bool.and_eq_true, decide_eq_true_eq] at h
    have := tx_lenL h.2
    simp only [txN, words, List.length_append, List.length_cons, List.length_nil]
    omega
theorem tx_lenL : ∀ {ps : List Nest}, fitL ps = true → (txL ps).length + 3 * ps.length ≤ 4 * wordsL ps
  | [], _ => by decide
  | n :: r, h => by
    simp only [fitL, Bool.and_eq_true] at h
    have h1 := tx_len h.1
    have h2 := tx_lenL h.2
    simp only [txL, wordsL, List.length_append, List.length_cons]
    omega
end
def readP (cs : List Nat) : Option Nest := match readG false cs [] [[]] with
  | some [n] => if okN n = true then some n else none
  | _ => none
def spWritten (K : PySem.W.Frag) (d : Nat) : Sp := fun vs H Q _ => ∃ (v : V) (n : Nest) (o : Option Bool), vs = [v] ∧ NestAt K H n v ∧ valid o n = true ∧ depthN n < d ∧ words n ≤ 60 ∧ ∀ H', Same H H' → Q (.str (txS n)) H'
def spShow (K : PySem.W.Frag) (C : Addr) : Sp := fun vs H Q E => ∃ (v : V) (n : Nest), vs = [v] ∧ NestAt K H n v ∧ (okN n = true → ∀ H', Same H H' → Q (.str (txS n)) H') ∧ (okN n = false → ∀ H', Same H H' → E (.ref C) none H')
theorem str_ext {x y : Str} (h : x.cps.toList = y.cps.toList) : x = y := congrArg Str.mk (Array.toList_inj.mp h)
theorem str_cat (x y : Str) : (x ++ y).cps.toList = x.cps.toList ++ y.cps.toList := by
  show (x.cps ++ y.cps).toList = _
  rw [Array.toList_append]
theorem str_len (x y : Str) : (x ++ y).length = x.length + y.length := by
  show (x.cps ++ y.cps).size = _
  rw [Array.size_append]
  rfl
def pts (cs : List Nat) : Nat := (cs.filter fun c => c == 46 || c == 41).length
def spOnlyN (K : PySem.W.Frag) (C : Addr) : Sp := fun vs H Q E => ∃ (l : Addr) (us : List V) (ns : List Nest), vs = [.ref l] ∧ H l = some (.lst us) ∧ NestsAt K H ns us ∧
  (∀ n v, ns = [n] → us = [v] → okN n = true → ∀ H', Same H H' → Q v H') ∧ ((∀ n, ns = [n] → okN n = false) → ∀ H', Same H H' → E (.ref C) none H')
def spRead (K : PySem.W.Frag) (C : Addr) : Sp := fun vs H Q E => ∃ v : V, vs = [v] ∧ ((∃ x : Str, v = .str x ∧ x.length ≤ 3000 ∧ pts x.cps.toList ≤ 900 ∧ (∀ n, readP x.cps.toList = some n → ∀ v' H', NestAt K H' n v' → Same H H' → Q v' H') ∧ (readP x.cps.toList = none → ∀ H', Same H H' → E (.ref C) none H')) ∨
  (∃ t, TyOf K H v t ∧ PySem.W.kitOne K t (.type "str") = some false ∧ ∀ H', Same H H' → E (.ref C) none H'))
end Tn
namespace Tn
open PySem
section
variable {prog : Program} {w : World} {A : Around} {E : Value → Shared → Prop} {s : Shared} {I : Addr} {fp wr : List Addr} {G : Array GenState → Array GenState → Prop} {n : Nat} {P : Nat → Value → Prop} {St : Nat → Shared → Prop}
theorem list_it {T : String} {Q : Value → Shared → Prop} (W : WalksS prog w A.in1.in1 I fp wr G n P St) (hn : n ≤ sizeLine) (t1 : (Value.type T == Value.type "list") = false) (t2 : (Value.type T == Value.type "tuple") = false) (hT : ∀ s, St 0 s → s.TypeIs (.ref I) T)
    (hhint : ∀ (s1 : Shared) (Q' : Bool → Shared → Prop) (E' : Value → Shared → Prop), St 0 s1 → (∀ b tk, s1.toks ≤ tk → Q' b { s1 with toks := tk }) → wpAny (model prog w) A.in1.in1 (Builtin.List.listLengthHint (.ref I)) Q' E' s1)
    (hst : St 0 s) (hfp : ∀ b ∈ fp, b < s.heap.objs.size) (hI : I ∈ fp)
    (hQ : ∀ s' acc' c', Moved (s.heap.objs.size :: wr) G { s with heap := s.heap.push { cls := .type "list", data := .seq #[] } } s' → s'.heap.get? s.heap.objs.size = some { cls := .type "list", dict := none, data := .seq acc' c', slots := #[] } → ItemsOf P acc' n → Q (.ref s.heap.objs.size) s') :
    wpAny (model prog w) A (call (.type "list") [.ref I]) Q E s := by
  have hSf : s.heap.objs.size ∉ fp := fun hm => Nat.lt_irrefl _ (hfp _ hm)
  have hSI : s.heap.objs.size ≠ I := fun e => hSf (e ▸ hI)
  refine callType_codes (Q₁ := fun obj s₁ => obj = .ref s.heap.objs.size ∧ s₁ = { s with heap := s.heap.push { cls := .type "list", data := .seq #[] } }) F.called_list (F.typeCall_list_1 _) F.entry_list_init (code_list_new _ ⟨rfl, rfl⟩) fun obj s₁ h₁ => ?_
  obtain ⟨rfl, rfl⟩ := h₁
  have hS0 : ({ s with heap := s.heap.push { cls := .type "list", data := .seq #[] } } : Shared).heap.get? s.heap.objs.size = some { cls := .type "list", data := .seq #[] } := Heap.get?_push_size _ rfl
  have st0 : St 0 { s with heap := s.heap.push { cls := .type "list", data := .seq #[] } } := W.frame 0 s _ s.toks hst (Nat.le_refl _) fun b _ o e => Heap.get?_push_of_some _ e
  refine ⟨⟨_, hS0, rfl⟩, F.args_list_init_2 _ _, ?_⟩
  generalize s.heap.objs.size = S at hSf hSI hS0 hQ ⊢
  generalize ({ s with heap := s.heap.push { cls := .type "list", data := .seq #[] } } : Shared) = sA at hS0 st0 hQ ⊢
  show wpAny _ _ (Builtin.List.listItems (.ref S) >>= fun old => Builtin.List.listUpdate (.ref S) (fun _ => #[]) >>= fun _ => letGo old.toList.reverse >>= fun _ => Builtin.List.listExtendWith (.ref S) (.ref I) .none) _ _ sA
  refine wpAny_bind ?_; unfold Builtin.List.listItems; refine wpAny_bind (wpAny_seqItems hS0 rfl (wpAny_pure ?_))
  show wpAny _ _ (updateSeq S (fun _ => #[]) >>= fun _ => letGo (#[] : Array Value).toList.reverse >>= fun _ => Builtin.List.listExtendWith (.ref S) (.ref I) .none) _ _ sA
  refine wpAny_bind (wpAny_updateSeq hS0 rfl ?_); have hS1 := Heap.get?_update_self (Obj.mapSeq (fun _ => (#[] : Array Value))) hS0 rfl
  have ot1 : ∀ b o, b ≠ S → sA.heap.get? b = some o → (sA.heap.update S (Obj.mapSeq (fun _ => (#[] : Array Value)))).get? b = some o := fun b o hb e => (Heap.get?_update_other _ _ (Ne.symm hb)).trans e
  refine wpAny_bind (wpAny_letGo ?_)
  have st1 : St 0 { sA with heap := sA.heap.update S (Obj.mapSeq (fun _ => (#[] : Array Value))) } := W.frame 0 sA _ sA.toks st0 (Nat.le_refl _) fun b hb o e => ot1 b o (fun h => hSf (h ▸ hb)) e
  unfold Builtin.List.listExtendWith; refine wpAny_bind (wpAny_typeOf (hT _ st1) ?_)
  have h1 : Builtin.List.listSameRef (.ref S) (.ref I) = false := by simp [Builtin.List.listSameRef, hSI]
  simp only [h1, t1, t2, Bool.or_false, Bool.false_eq_true, if_false]; refine wpAny_bind (W.self 0 _ _ _ st1 ?_)
  refine wpAny_bind (wpAny_holding (hhint _ _ _ st1 fun b tk htk => ?_))
  have fin : ∀ (h' : Heap) (c : Nat), (∀ b o, b ≠ S → sA.heap.get? b = some o → h'.get? b = some o) → h'.get? S = some { cls := .type "list", dict := none, data := .seq #[] c, slots := #[] } →
      codeAny (model prog w) A.in1 (.builtin "list.extend.loop" ⟨[.ref S, .ref I, .none], []⟩) (wants (fun r s₂ => r = .none ∧ Q (.ref S) s₂) E) { sA with heap := h', toks := tk } := fun h' c kp hS' => by
    refine codeAny_extend_loopS W hn S hSf .none n 0 { sA with heap := h', toks := tk } #[] c rfl (Nat.zero_le _) (W.frame 0 sA _ _ st0 htk fun b hb o e => kp b o (fun h => hSf (h ▸ hb)) e) hS' (ItemsOf.nil P) fun s' acc' c' hm hS2 hacc => ?_
    exact ⟨rfl, hQ s' acc' c' ⟨fun b o hb e => hm.heap b o hb (kp b o (fun h => hb (h ▸ List.mem_cons_self)) e), hm.gens, hm.drawn, hm.os, Nat.le_trans htk hm.toks⟩ hS2 hacc⟩
  refine wpAny_ite_split (fun _ => ?_) (fun _ => wpAny_pure ⟨plainId_quiet F.plain_extend_loop _, fin _ _ ot1 hS1⟩)
  refine wpAny_bind (wpAny_rule ?_); refine wpAny_bind ?_
  show wpAny _ _ (updateSeq S (·.push .none) >>= fun _ => updateSeq S (·.pop)) _ _ _
  refine wpAny_bind (wpAny_updateSeq hS1 rfl ?_); have hS2 := Heap.get?_update_self (Obj.mapSeq (·.push Value.none)) hS1 rfl
  refine wpAny_updateSeq (hz := by seq_fits) hS2 rfl ?_; have hS3 := Heap.get?_update_self (Obj.mapSeq (·.pop)) hS2 rfl
  exact wpAny_pure ⟨plainId_quiet F.plain_extend_loop _, fin _ _ (fun b o hb e => (Heap.get?_update_other _ _ (Ne.symm hb)).trans ((Heap.get?_update_other _ _ (Ne.symm hb)).trans (ot1 b o hb e))) hS3⟩
end
theorem lri_nolen : typeLookup (.type "list_reverseiterator") "__len__" = pure none := by rw [typeLookup_type, builtinLookup_eq_fast]; kernel_rfl
theorem lri_hintL : typeLookup (.type "list_reverseiterator") "__length_hint__" = pure (some (.builtin "list_reverseiterator.__length_hint__")) := by rw [typeLookup_type, builtinLookup_eq_fast]; kernel_rfl
theorem lri_sub : isSubtype (.type "list_reverseiterator") (.type "list_reverseiterator") = pure true := by rw [isSubtype_type]; kernel_rfl
section
variable {prog : Program} {w : World} {A : Around} {E : Value → Shared → Prop} {s : Shared}
theorem lri_hint {a : Addr} {Q : Bool → Shared → Prop} (hT : s.TypeIs (.ref a) "list_reverseiterator") (hQ : Q false s) : wpAny (model prog w) A (Builtin.List.listLengthHint (.ref a)) Q E s := by
  unfold Builtin.List.listLengthHint; refine wpAny_bind (wpAny_specialOf hT lri_nolen ?_)
  show wpAny _ _ (specialOf (Value.ref a) (Str.ofString "__length_hint__") >>= _) _ _ _
  refine wpAny_bind (wpAny_specialOf hT lri_hintL ?_); try dsimp only
  rw [show splitId "list_reverseiterator.__length_hint__" = some ("list_reverseiterator", "__length_hint__") from by decide +kernel]
  refine wpAny_bind (wpAny_isInstance (T := "list_reverseiterator") (b := true) hT lri_sub ?_)
  rw [if_neg (by decide)]; rw [if_pos (by decide +kernel)]
  rw [if_neg (by decide +kernel)]
  exact wpAny_pure hQ
theorem list_lri {l : Addr} {items : Array Value} {Q : Value → Shared → Prop} (hh : A.handled = none) (hl : s.heap.IsList l items) (hz : items.size ≤ sizeLine) {it : Addr} (hit : s.heap.IsRevIter it l ((items.size : Int) - 1)) (hne : l ≠ it)
    (hQ : ∀ h' tk acc' c', (∀ b o, b ≠ it → s.heap.get? b = some o → h'.get? b = some o) → h'.get? s.heap.objs.size = some { cls := .type "list", dict := none, data := .seq acc' c', slots := #[] } → ItemsOf (fun i v => items[items.size - 1 - i]? = some v) acc' items.size → Q (.ref s.heap.objs.size) { s with heap := h', toks := tk }) :
    wpAny (model prog w) A (call (.type "list") [.ref it]) Q E s := by
  have la : it < s.heap.objs.size := by obtain ⟨o, e, _⟩ := hit; exact Heap.lt_size e
  have ll : l < s.heap.objs.size := by obtain ⟨o, e, _⟩ := hl; exact Heap.lt_size e
  have W := (Walks.listRev (prog := prog) (w := w) (A := A.in1.in1) hh it l hne items).toS
  refine list_it (T := "list_reverseiterator") W hz (by decide) (by decide) (fun s st => st.2.1.typeIs) (fun s1 Q' E' st h => lri_hint st.2.1.typeIs (h false s1.toks (Nat.le_refl _))) ⟨Nat.zero_le _, by simpa using hit, hl⟩ (fun b hb => ?_) (by simp) fun s' acc' c' hm hS hacc => ?_
  · rcases List.mem_cons.mp hb with rfl | hb
    · exact la
    · have : b = l := by simpa using hb
      subst this; exact ll
  · rw [Moved.eq_with hm]
    refine hQ s'.heap s'.toks acc' c' (fun b o hb e => hm.heap b o (fun h => ?_) (Heap.get?_push_of_some _ e)) hS hacc
    rcases List.mem_cons.mp h with z | z
    · subst z; exact absurd (Heap.lt_size e) (Nat.lt_irrefl _)
    · exact hb (by simpa using z)
end
end Tn
namespace L2
open PySem PySem.Spec PyProof.Rows
section
variable {X : Cx}
def tLstRev (K : PySem.W.Frag) (ta : TA) : TE := fun σ H Q => ta σ H fun vs H1 => ∃ a xs, vs = [.ref a] ∧ SqT K H1 a xs ∧ ∀ p, H1 p = none → Q (.ref p) (upd H1 p (.lst xs.reverse))
def tLstRevL (K : PySem.W.Frag) (ta : TA) : TE := fun σ H Q => ta σ H fun vs H1 => ∃ a xs, vs = [.ref a] ∧ SqL K H1 a xs ∧ ∀ p, H1 p = none → Q (.ref p) (upd H1 p (.lst xs.reverse))
theorem lst_fin {pins : List (Addr × Obj)} {σ : St} {H1 : Hp} {s1 : Shared} {h2 : Heap} {xs : List V} {its : List Value} {Q : VK} {acc' : Array Value} {c' tk : Nat} {h' : Heap} (I1 : Inv X pins σ H1 s1) (it : Addr) (hit : it = s1.heap.objs.size) (k2 : ∀ b o, s1.heap.get? b = some o → h2.get? b = some o) (hsz : h2.objs.size = s1.heap.objs.size + 1)
    (rv : Vals xs its) (hz : xs.length ≤ sizeLine) (kp : ∀ b o, b ≠ it → h2.get? b = some o → h'.get? b = some o) (hS : h'.get? h2.objs.size = some { cls := .type "list", dict := none, data := .seq acc' c', slots := #[] }) (hacc : ItemsOf (fun i v => its.toArray[its.toArray.size - 1 - i]? = some v) acc' its.toArray.size)
    (q : ∀ p, H1 p = none → Q (.ref p) (upd H1 p (.lst xs.reverse))) : EP X pins σ Q (.ref h2.objs.size) { s1 with heap := h', toks := tk } := by
  have k3 : ∀ b o, s1.heap.get? b = some o → h'.get? b = some o := fun b o e => kp b o (fun z => by rw [z, hit] at e; exact absurd (Heap.lt_size e) (Nat.lt_irrefl _)) (k2 b o e)
  have hge : s1.heap.objs.size ≤ h2.objs.size := by rw [hsz]; exact Nat.le_succ _
  exact ⟨.ref h2.objs.size, _, I1.laid (t' := tk) (o := .lst xs.reverse) k3 hge ⟨by rw [List.length_reverse]; exact hz, acc'.toList, c', vals_rev rv hacc, by simpa using hS⟩, rfl, q _ (I1.hok.fresh hge)⟩
theorem pe_lstRevL {e : Expr} {ta : TA} {p1 p2 pos1 pos2 : Pos} (hg : Gl X "list") (hg2 : Gl X "reversed") (hm : X.mg "list" = none) (hm2 : X.mg "reversed" = none) (hc : X.calm = true) (ha : PA X [e] ta)
    (hs : starEach [e] X.env = [(false, eval e X.env)] := by rfl) (hs2 : starEach [Expr.Call (.Name "reversed" p2) [e] [] pos2] X.env = [(false, eval (.Call (.Name "reversed" p2) [e] [] pos2) X.env)] := by rfl) :
    PE X (.Call (.Name "list" p1) [.Call (.Name "reversed" p2) [e] [] pos2] [] pos1) (tLstRevL X.K ta) := by
  intro pins s σ H Q I h
  refine Call_ (ld_blt I hg hm (by decide +kernel : bootBuiltins "list" = some (.type "list")) (PyProof.Rows.callWith_type1 ?_ hs2 rfl))
  rw [hs2]; show wpAny _ _ (spliced ((false, eval (.Call (.Name "reversed" p2) [e] [] pos2) X.env) :: [])) _ _ s
  refine Calls.spliced_cons (Call_ (ld_blt I hg2 hm2 (by decide +kernel : bootBuiltins "reversed" = some (.type "reversed")) (PyProof.Rows.callWith_type1 (thn (ha pos2 pins s σ H _ I h) fun us s1 ⟨vs, H1, I1, r1, q1⟩ => ?_) hs rfl)))
  obtain ⟨a, xs, rfl, hq, q⟩ := q1
  obtain ⟨u, rfl, rx⟩ := vals1 r1
  cases rx
  obtain ⟨its, rv, pl, hz⟩ := I1.list hq
  have hl := rv.length
  have pt : s1.heap.IsList a its.toArray := pl.isList
  have hne : a ≠ s1.heap.objs.size := by obtain ⟨o, e1, _⟩ := pt; exact Nat.ne_of_lt (Heap.lt_size e1)
  refine call_reversed_list pt (Calls.spliced_nil ?_)
  refine Tn.list_lri (items := its.toArray) (l := a) (it := s1.heap.objs.size) (I.ok.hd hc) (Tn.tup_atL pt fun o e1 => Heap.get?_push_of_some _ e1) (by rw [List.size_toArray]; omega) ⟨_, Heap.get?_push_size _ rfl, rfl, rfl⟩ hne fun h' tk' acc' c' kp hS hacc => ?_
  exact lst_fin (s1 := s1) (h2 := s1.heap.push (revObj a ((its.toArray.size : Int) - 1))) I1 _ rfl (fun b o e => Heap.get?_push_of_some _ e) (Heap.size_push ..) rv hz kp hS hacc q
end
end L2
namespace L2
open PySem PySem.Spec PyProof PyProof.Rows
def Its (x : Str) : It := ⟨fun i _ => i < x.length, fun i H y H' => H' = H ∧ ∃ c, x.cps.toList[i]? = some c ∧ y = .str ⟨#[c]⟩, fun i _ => i = x.length⟩
theorem turn_str {P : Program} {w : World} {K : PySem.W.Frag} {tg : Expr} {n : String} (it : Addr) (x : Str) (t : Tok)
    (hn : ["enumerate", "zip", "dict_itemiterator", "dict_reverseitemiterator", "odict_iterator", "itertools.zip_longest", "itertools.pairwise"].contains n = false)
    (W : ∀ A : Around, A.handled = none → Walks P w A it [it] [it] x.cps.size (SignAt x) (fun i h => h.IsStrIter it n x t i))
    (hs : ∀ (A : Around) (i : Nat) (s : Shared) (Q : Value → Shared → Prop) (E : Value → Shared → Prop), s.heap.IsStrIter it n x t i → Q (.ref it) s → wpAny (model P w) A (pyIter (.ref it)) Q E s) :
    Turn P w K tg (Its x) [it] it (fun i h => h.IsStrIter it n x t i) where
  mem := by simp
  obj := fun i h st b hb => by
    have e : b = it := by simpa using hb
    subst e
    obtain ⟨o, e, c, d⟩ := st
    exact ⟨o, e, fun v z => by rw [d] at z; cases z⟩
  keep := fun i h h' st k => let ⟨o, e, r⟩ := st; ⟨o, k it (by simp) o e, r⟩
  item := by
    intro X hP hw hK hc i pins s σ H E I hf st hg
    subst hP hw hK
    obtain ⟨f0, f1, f2, f3, f4, f5⟩ := hf it (by simp)
    refine (W X.A (I.ok.hd hc)).item i s _ _ hg st fun v h' tk hv st' kk => ?_
    obtain ⟨c, u, hcu, rfl⟩ := hv
    have I1 : Inv X pins σ H { s with heap := h', toks := tk } := I.turned (fun b o hb e => kk b o (by simpa using hb) e) f0 f1 f3 f4 f5
    obtain ⟨o, e, cl, d⟩ := id st'
    exact ⟨_, rfl, go_of (s := { s with heap := h', toks := tk }) e cl d hn ⟨.str ⟨#[c]⟩, H, I1, ⟨u, rfl⟩, ⟨rfl, c, by simpa using hcu, rfl⟩, st', fun b hb => (hf b hb).1⟩⟩
  done := by
    intro X hP hw hK hc i pins s σ H E I hf st hg
    subst hP hw hK
    have hg : i = x.length := hg
    subst hg
    obtain ⟨f0, f1, f2, f3, f4, f5⟩ := hf it (by simp)
    exact (W X.A (I.ok.hd hc)).done s _ _ st fun h' tk kk => ⟨rfl, I.turned (fun b o hb e => kk b o (by simpa using hb) e) f0 f1 f3 f4 f5⟩
  self := hs
def iStr (tl : TE) : TI := fun σ H R => tl σ H fun x H1 => ∃ z, x = .str z ∧ R (Its z) H1
section
variable {X : Cx} {tg : Expr}
theorem pi_str {l : Expr} {tl : TE} (hl : PE X l tl) : PI X tg l (iStr tl) := by
  intro pins s σ H R I h
  refine thn (hl pins s σ H _ I h) fun v s1 ⟨x, H1, I1, r1, q1⟩ => ?_
  obtain ⟨z, e, q⟩ := q1
  subst e
  obtain ⟨t, rfl⟩ := r1
  have fp : ∀ b ∈ [s1.heap.objs.size], FpOk X pins H1 b := fun b hb => by
    have e : b = s1.heap.objs.size := by simpa using hb
    subst e
    exact I1.fpOk (Nat.le_refl _) (I1.hok.fresh (Nat.le_refl _))
  cases ha : z.cps.all (· < 128)
  · refine wpAny_pyIter_wide ha ?_
    exact ⟨s1.heap.objs.size, [s1.heap.objs.size], _, _, H1, rfl, I1.kept (t' := s1.toks) fun b o e => Heap.get?_push_of_some _ e, turn_str _ z t (by decide) (fun A hA => Walks.strWide hA _ z t) (fun _ _ _ _ _ st hq => wpAny_pyIter_striter_wide st hq), ⟨_, Heap.get?_push_size _ rfl, rfl, rfl⟩, fp, q⟩
  · refine wpAny_pyIter_ascii ha ?_
    exact ⟨s1.heap.objs.size, [s1.heap.objs.size], _, _, H1, rfl, I1.kept (t' := s1.toks) fun b o e => Heap.get?_push_of_some _ e, turn_str _ z t (by decide) (fun A hA => Walks.strAscii hA _ z t) (fun _ _ _ _ _ st hq => wpAny_pyIter_striter_ascii st hq), ⟨_, Heap.get?_push_size _ rfl, rfl, rfl⟩, fp, q⟩
def rSplit : V → List V → Hp → VK → Prop := fun x vs H Q => ∃ (i j : Str), x = .str i ∧ vs = [.str j] ∧ (j.length == 0) = false ∧ i.length + 2 ≤ sizeLine ∧ ∀ p, H p = none → Q (.ref p) (upd H p (.lst ((Txt.split i j).map V.str)))
theorem strV : ∀ (l : List (Str × Tok)), Vals ((l.map (·.1)).map V.str) (strValues l)
  | [] => .nil
  | p :: r => .cons ⟨p.2, rfl⟩ (strV r)
theorem mt_split : MtM X "str.split" rSplit := by
  intro pins s σ H x vs v us Q I rx rv h
  obtain ⟨i, j, rfl, rfl, hj, hz, q⟩ := h
  obtain ⟨t, rfl⟩ := rx
  obtain ⟨w, rfl, ru⟩ := vals1 rv
  obtain ⟨u, rfl⟩ := ru
  have hn : (Builtin.Str.partsBetween i (Builtin.Str.occurrences i j 0 i.length (i.length + 1)) j.length).length ≤ sizeLine := by
    have e1 := StrLaws.occ_length_le i j 0 i.length (i.length + 1)
    rw [length_partsBetween]; omega
  have fin : ∀ (l : List (Str × Tok)) (k : Nat), l.map (·.1) = Txt.split i j → EP X pins σ Q (.ref s.heap.objs.size) { s with heap := s.heap.push { cls := .type "list", data := .seq (strValues l).toArray }, toks := k } := fun l k e => by
    have hv := strV l
    rw [e] at hv
    exact ⟨.ref _, _, I.lnew (t' := k) hv (by rw [List.length_map]; have := split_le i j; omega), rfl, q _ I.fresh⟩
  cases h1 : (decide (i.length < j.length) || decide (Builtin.Str.strKind i < Builtin.Str.strKind j))
  · cases hf : (Builtin.Str.occurrences i j 0 i.length (i.length + 1)).isEmpty
    · refine call_meets F.slot_str_split (typeIs_str _ _ _) F.entry_str_split (F.args_str_split_2 _ _) (meets_str_split_sep i j t u h1 hj hf (by omega) hn) ?_
      show wants _ _ _ { s with toks := _, heap := s.heap.push { cls := .type "list", data := .seq (strsFrom s.toks (Builtin.Str.partsBetween i (Builtin.Str.occurrences i j 0 i.length (i.length + 1)) j.length)).toArray } }
      rw [strsFrom_eq]
      exact fin (numbered s.toks _) _ ((numbered_texts _ _).trans ((if_neg (ne_true_of_eq_false h1)).trans (if_neg (ne_true_of_eq_false hf))).symm)
    · exact call_meets F.slot_str_split (typeIs_str _ _ _) F.entry_str_split (F.args_str_split_2 _ _) (meets_str_split_not_found i j t u h1 hj hf)
        (fin [(i, t)] s.toks ((if_neg (ne_true_of_eq_false h1)).trans (if_pos hf)).symm)
  · exact call_meets F.slot_str_split (typeIs_str _ _ _) F.entry_str_split (F.args_str_split_2 _ _) (meets_str_split_cannot_occur i j t u h1)
      (fin [(i, t)] s.toks (if_pos h1).symm)
end
theorem comp_str {x : Str} {te : TE} {js : List Nat} {σ : St} {H1 : Hp} {Q : VK} {D : Addr} (f : Nat → V) (hn : x.length ≤ sizeLine)
    (he : ∀ (i : Nat) (c : Nat) (acc : List V) (R : VK), x.cps.toList[i]? = some c → R (f i) (upd H1 D (.lst acc)) → te (some (.str ⟨#[c]⟩) :: js.map fun j => (σ[j]?).getD none) (upd H1 D (.lst acc)) R)
    (hq : Q (.ref D) (upd H1 D (.lst ((List.range x.length).map f)))) : CompW (Its x) (gName 0) tYes te js σ H1 Q D := by
  have hl : (x.cps.toList.map fun c => V.str ⟨#[c]⟩).length = x.length := by simp [Str.length]
  refine comp_seq (xs := x.cps.toList.map fun c => V.str ⟨#[c]⟩) f (by rw [hl]; exact hn) (fun i acc hi => by rw [hl] at hi; exact hi) (fun acc => hl) (fun i acc y H2 hi h => ⟨?_, h.1⟩) (fun i y acc R hy hr => ?_) (by rw [hl]; exact hq)
  · obtain ⟨_, c, hc, rfl⟩ := h
    rw [List.getElem?_map, hc]; rfl
  · rw [List.getElem?_map] at hy
    obtain ⟨c, hc, rfl⟩ := Option.map_eq_some_iff.mp hy
    exact he i c acc R hc hr
end L2
namespace Tn
open PySem L2
def jn (c : Nat) : List (List Nat) → List Nat
  | [] => []
  | [x] => x
  | x :: y :: r => x ++ c :: jn c (y :: r)
theorem cut_first {c : Nat} {a b r s : List Nat} (ha : c ∉ a) (hb : c ∉ b) (h : a ++ c :: r = b ++ c :: s) : a = b ∧ r = s := by
  induction a generalizing b with
  | nil =>
    cases b with
    | nil => exact ⟨rfl, by simpa using h⟩
    | cons y b => simp at h; exact absurd (h.1 ▸ List.Mem.head _) hb
  | cons x a ih =>
    cases b with
    | nil => simp at h; exact absurd (h.1 ▸ List.Mem.head _) ha
    | cons y b =>
      simp at h
      obtain ⟨e1, e2⟩ := ih (fun z => ha (.tail _ z)) (fun z => hb (.tail _ z)) h.2
      exact ⟨by rw [h.1, e1], e2⟩
theorem jn_mem {c : Nat} : ∀ {x y : List Nat} {r : List (List Nat)}, c ∈ jn c (x :: y :: r) := fun {x y r} => by rw [jn]; simp
theorem jn_inj {c : Nat} : ∀ {ps qs : List (List Nat)}, (∀ p ∈ ps, c ∉ p) → (∀ q ∈ qs, c ∉ q) → ps ≠ [] → qs ≠ [] → jn c ps = jn c qs → ps = qs
  | [], _, _, _, h, _, _ => absurd rfl h
  | _ :: _, [], _, _, _, h, _ => absurd rfl h
  | [x], [y], _, _, _, _, h => by rw [jn, jn] at h; rw [h]
  | [x], y :: z :: r, hp, _, _, _, h => by
    have := jn_mem (c := c) (x := y) (y := z) (r := r)
    rw [← h, jn] at this
    exact absurd this (hp x (.head _))
  | y :: z :: r, [x], _, hq, _, _, h => by
    have := jn_mem (c := c) (x := y) (y := z) (r := r)
    rw [h, jn] at this
    exact absurd this (hq x (.head _))
  | a :: b :: r, d :: e :: s, hp, hq, _, _, h => by
    rw [jn, jn] at h
    obtain ⟨e1, e2⟩ := cut_first (hp a (.head _)) (hq d (.head _)) h
    have := jn_inj (fun p h => hp p (.tail _ h)) (fun q h => hq q (.tail _ h)) (by simp) (by simp) e2
    rw [e1, this]
theorem join_jn (c : Nat) : ∀ (ps : List Str), (Str.join ⟨#[c]⟩ ps).cps.toList = jn c (ps.map (·.cps.toList))
  | [] => rfl
  | [x] => rfl
  | x :: y :: r => by
    have ih := join_jn c (y :: r)
    show (x ++ ⟨#[c]⟩ ++ Str.join ⟨#[c]⟩ (y :: r)).cps.toList = _
    rw [str_cat, str_cat, ih]
    simp [jn]
theorem glue_jn (c : Nat) : ∀ (l : List Str) (a : Array Nat), (l.foldl (fun acc p => acc ++ (⟨#[c]⟩ : Str).cps ++ p.cps) a).toList = jn c (a.toList :: l.map (·.cps.toList))
  | [], a => rfl
  | x :: l, a => by
    rw [List.foldl_cons, glue_jn c l]
    cases l with
    | nil => simp [jn]
    | cons y r => simp [jn]
theorem txt_jn (c : Nat) : ∀ (ps : List Str), (Txt.join ⟨#[c]⟩ ps).cps.toList = jn c (ps.map (·.cps.toList))
  | [] => rfl
  | x :: l => glue_jn c l x.cps
theorem split_ne (x : Str) (c : Nat) : Txt.split x ⟨#[c]⟩ ≠ [] := fun h => by
  have := PyProof.Rows.split_pos x ⟨#[c]⟩
  rw [h] at this
  exact absurd this (by decide)
theorem split_join (c : Nat) {ps : List Str} (h0 : ps ≠ []) (hf : ∀ p ∈ ps, c ∉ p.cps.toList) : Txt.split (Txt.join ⟨#[c]⟩ ps) ⟨#[c]⟩ = ps := by
  have e := StrLaws.join_split (Txt.join ⟨#[c]⟩ ps) ⟨#[c]⟩
  have e2 := congrArg (fun z : Str => z.cps.toList) e
  rw [join_jn, txt_jn] at e2
  have e3 := jn_inj (fun p hp => by
    obtain ⟨q, hq, rfl⟩ := List.mem_map.mp hp
    exact StrLaws.split_free _ c q hq) (fun p hp => by
    obtain ⟨q, hq, rfl⟩ := List.mem_map.mp hp
    exact hf q hq) (by simp [split_ne]) (by simpa using h0) e2
  exact (List.map_inj_right fun a b h => str_ext h).mp e3
theorem jn_len (c : Nat) : ∀ (ps : List (List Nat)), (jn c ps).length ≤ (ps.map (·.length)).sum + ps.length
  | [] => Nat.le_refl _
  | [x] => by simp [jn]
  | x :: y :: r => by
    have := jn_len c (y :: r)
    simp [jn] at this ⊢
    omega
end Tn
namespace Tn
open PySem L2
def signs : List Nat := (Str.ofString "abcdefghijklmnopqrstuvwxyz0123456789").cps.toList
def isW (x : Str) : Bool := decide (1 ≤ x.length) && decide (x.length ≤ 8) && x.cps.toList.all fun c => decide (c ∈ signs)
theorem isW_free {x : Str} (h : isW x = true) {c : Nat} (hc : c ∉ signs) : c ∉ x.cps.toList := fun hm => by
  simp only [isW, Bool.and_eq_true, List.all_eq_true, decide_eq_true_eq] at h
  exact hc (h.2 c hm)
theorem isW_len {x : Str} (h : isW x = true) : 1 ≤ x.length ∧ x.length ≤ 8 := by
  simp only [isW, Bool.and_eq_true, decide_eq_true_eq] at h
  exact h.1
theorem isW_ne {x y : Str} (h : isW x = true) {c : Nat} (hy : y = ⟨#[c]⟩) (hc : c ∉ signs) : x ≠ y := fun z => by
  have := isW_free h hc
  rw [z, hy] at this
  exact this (by simp)
theorem isW_lt {x : Str} (h : isW x = true) : x ≠ "<" := isW_ne h (c := 60) (by decide +kernel) (by decide +kernel)
theorem isW_gt {x : Str} (h : isW x = true) : x ≠ ">" := isW_ne h (c := 62) (by decide +kernel) (by decide +kernel)
def seeT : List Str → List Str → List Nat → Option (List Str)
  | [], row, [] => some row
  | [], _, _ :: _ => none
  | p :: ps, row, fs => if p = "<" then seeT ps row (row.length :: fs) else if p = ">" then (match fs with
      | [] => none
      | f :: fs => if row.length < f + 2 then none else seeT ps (row.take f ++ (row.drop f).reverse) fs) else seeT ps (row ++ [p]) fs
def okRow (row : List Str) : Bool := decide (1 ≤ row.length) && decide (row.length ≤ 60) && row.all isW
inductive Seg : List Str → List Str → List (Nat × Nat) → List Nat → Prop
  | nil : Seg [] [] [] []
  | word {x : Str} (h : isW x = true) : Seg [x] [x] [] [0]
  | app {a b wa wb : List Str} {pa pb : List (Nat × Nat)} {ra rb : List Nat} (h1 : Seg a wa pa ra) (h2 : Seg b wb pb rb) : Seg (a ++ b) (wa ++ wb) (pa ++ pb.map fun p => (p.1 + wa.length, p.2 + wa.length)) (ra ++ rb.map (· + wa.length))
  | pair {a w : List Str} {p : List (Nat × Nat)} {r : List Nat} (h : Seg a w p r) (h2 : 2 ≤ w.length) : Seg ("<" :: (a ++ [(">" : Str)])) w ((0, w.length) :: p) r.reverse
theorem Seg.words {a w : List Str} {p : List (Nat × Nat)} {r : List Nat} (h : Seg a w p r) : ∀ x ∈ w, isW x = true := by
  induction h with
  | nil => intro x h; cases h
  | word h => intro x hx; rw [List.mem_singleton.mp hx]; exact h
  | app _ _ i1 i2 => exact fun x hx => (List.mem_append.mp hx).elim (i1 x) (i2 x)
  | pair _ _ ih => exact ih
theorem Seg.perm {a w : List Str} {p : List (Nat × Nat)} {r : List Nat} (h : Seg a w p r) : r.Perm (List.range w.length) := by
  induction h with
  | nil => exact .nil
  | word h => exact .refl _
  | @app a b wa wb pa pb ra rb _ _ i1 i2 =>
    rw [List.length_append, List.range_add]
    refine i1.append ?_
    refine (i2.map _).trans ?_
    exact List.Perm.of_eq (List.map_congr_left fun x _ => Nat.add_comm _ _)
  | pair _ _ ih => exact (List.reverse_perm _).trans ih
theorem Seg.len {a w : List Str} {p : List (Nat × Nat)} {r : List Nat} (h : Seg a w p r) : r.length = w.length := by rw [h.perm.length_eq, List.length_range]
theorem Seg.lt {a w : List Str} {p : List (Nat × Nat)} {r : List Nat} (h : Seg a w p r) : ∀ i ∈ r, i < w.length := fun i hi => List.mem_range.mp (h.perm.mem_iff.mp hi)
theorem Seg.pieces {a w : List Str} {p : List (Nat × Nat)} {r : List Nat} (h : Seg a w p r) : ∀ x ∈ a, x = "<" ∨ x = ">" ∨ isW x = true := by
  induction h with
  | nil => intro x h; cases h
  | word h => intro x hx; rw [List.mem_singleton.mp hx]; exact .inr (.inr h)
  | app _ _ i1 i2 => exact fun x hx => (List.mem_append.mp hx).elim (i1 x) (i2 x)
  | pair _ _ ih =>
    intro x hx
    rcases List.mem_cons.mp hx with e | hx
    · exact .inl e
    · rcases List.mem_append.mp hx with hx | hx
      · exact ih x hx
      · exact .inr (.inl (List.mem_singleton.mp hx))
def rowW (w : List Str) (r : List Nat) : List Str := r.map fun i => w.getD i ""
theorem rowW_app {wa wb : List Str} {ra rb : List Nat} (ha : ∀ i ∈ ra, i < wa.length) : rowW (wa ++ wb) (ra ++ rb.map (· + wa.length)) = rowW wa ra ++ rowW wb rb := by
  unfold rowW
  rw [List.map_append, List.map_map]
  congr 1
  · refine List.map_congr_left fun i hi => ?_
    have := ha i hi
    simp [List.getD, List.getElem?_append_left this]
  · refine List.map_congr_left fun i _ => ?_
    show (wa ++ wb).getD (i + wa.length) "" = _
    simp [List.getD, List.getElem?_append_right (show wa.length ≤ i + wa.length by omega)]
theorem Seg.see {a w : List Str} {p : List (Nat × Nat)} {r : List Nat} (h : Seg a w p r) : ∀ (rest row : List Str) (fs : List Nat), seeT (a ++ rest) row fs = seeT rest (row ++ rowW w r) fs := by
  induction h with
  | nil => intro rest row fs; simp [rowW]
  | @word x h =>
    intro rest row fs
    show seeT (x :: rest) row fs = _
    rw [seeT.eq_def]
    dsimp only
    rw [if_neg (isW_lt h), if_neg (isW_gt h)]
    rfl
  | @app a b wa wb pa pb ra rb h1 h2 i1 i2 =>
    intro rest row fs
    rw [List.append_assoc, i1, i2, rowW_app h1.lt, List.append_assoc]
  | @pair a w p r h h2 ih =>
    intro rest row fs
    show seeT ("<" :: (a ++ [(">" : Str)] ++ rest)) row fs = _
    rw [seeT.eq_def]
    dsimp only
    rw [if_pos rfl, List.append_assoc, ih]
    have hl : (rowW w r).length = w.length := by rw [rowW, List.length_map, h.len]
    show seeT (">" :: rest) _ _ = _
    rw [seeT.eq_def]
    dsimp only
    rw [if_neg (by decide +kernel), if_pos rfl]
    rw [if_neg (by rw [List.length_append]; omega), List.take_append_of_le_length (Nat.le_refl _), List.take_length, List.drop_append_of_le_length (Nat.le_refl _), List.drop_length, List.nil_append]
    congr 2
    unfold rowW
    rw [List.map_reverse]
theorem Seg.seen {a w : List Str} {p : List (Nat × Nat)} {r : List Nat} (h : Seg a w p r) : seeT a [] [] = some (rowW w r) := by
  have := h.see [] [] []
  rw [List.append_nil, List.nil_append] at this
  rw [this, seeT]
theorem Seg.ok {a w : List Str} {p : List (Nat × Nat)} {r : List Nat} (h : Seg a w p r) (h1 : 1 ≤ w.length) (h2 : w.length ≤ 60) : okRow (rowW w r) = true := by
  have hl : (rowW w r).length = w.length := by rw [rowW, List.length_map, h.len]
  unfold okRow
  rw [hl]
  simp only [Bool.and_eq_true, decide_eq_true_eq, List.all_eq_true]
  refine ⟨⟨h1, h2⟩, fun x hx => ?_⟩
  obtain ⟨i, hi, rfl⟩ := List.mem_map.mp hx
  have := h.lt i hi
  refine h.words _ ?_
  rw [List.getD, List.getElem?_eq_getElem this]
  exact List.getElem_mem _
def minIx (row : List Nat) (f n : Nat) : Nat := ((List.range' f n).map fun i => row.idxOf i).foldl Nat.min (row.idxOf f)
def tstep (row : List Nat) (p : Nat × Nat) : List Nat := let at' := minIx row p.1 (p.2 - p.1); row.take at' ++ ((row.drop at').take (p.2 - p.1)).reverse ++ row.drop (at' + (p.2 - p.1))
theorem foldl_min_le : ∀ (l : List Nat) (a : Nat), l.foldl Nat.min a ≤ a ∧ (∀ x ∈ l, l.foldl Nat.min a ≤ x)
  | [], a => ⟨Nat.le_refl _, fun _ h => by cases h⟩
  | y :: l, a => by
    obtain ⟨h1, h2⟩ := foldl_min_le l (Nat.min a y)
    refine ⟨Nat.le_trans h1 (Nat.min_le_left _ _), fun x hx => ?_⟩
    rcases List.mem_cons.mp hx with e | e
    · rw [e]; exact Nat.le_trans h1 (Nat.min_le_right _ _)
    · exact h2 x e
theorem foldl_min_ge {b : Nat} : ∀ (l : List Nat) (a : Nat), b ≤ a → (∀ x ∈ l, b ≤ x) → b ≤ l.foldl Nat.min a
  | [], _, h, _ => h
  | y :: l, a, h, hl => foldl_min_ge l _ (Nat.le_min.mpr ⟨h, hl y (.head _)⟩) fun x hx => hl x (.tail _ hx)
theorem minIx_at {A S B : List Nat} {f n : Nat} (hn : 1 ≤ n) (hS : S.Perm (List.range' f n)) (hA : ∀ i ∈ A, ¬ (f ≤ i ∧ i < f + n)) : minIx (A ++ S ++ B) f n = A.length := by
  have hi : ∀ i, f ≤ i → i < f + n → (A ++ S ++ B).idxOf i = A.length + S.idxOf i := fun i h1 h2 => by
    have hm : i ∈ S := hS.mem_iff.mpr (List.mem_range'_1.mpr ⟨h1, h2⟩)
    rw [List.append_assoc, List.idxOf_append, if_neg (fun z => hA i z ⟨h1, h2⟩), List.idxOf_append, if_pos hm]
    omega
  obtain ⟨x, S', rfl⟩ : ∃ x S', S = x :: S' := by
    cases S with
    | nil => have := hS.length_eq; rw [List.length_range'] at this; simp at this; omega
    | cons x S' => exact ⟨x, S', rfl⟩
  have hx := List.mem_range'_1.mp (hS.mem_iff.mp (List.Mem.head S'))
  refine Nat.le_antisymm ?_ ?_
  · have h1 := (foldl_min_le ((List.range' f n).map fun i => (A ++ (x :: S') ++ B).idxOf i) ((A ++ (x :: S') ++ B).idxOf f)).2 ((A ++ (x :: S') ++ B).idxOf x) (List.mem_map.mpr ⟨x, List.mem_range'_1.mpr hx, rfl⟩)
    rw [hi x hx.1 hx.2] at h1
    unfold minIx
    simp at h1 ⊢
    exact h1
  · refine foldl_min_ge _ _ (by rw [hi f (Nat.le_refl _) (by omega)]; omega) fun y hy => ?_
    obtain ⟨i, hir, rfl⟩ := List.mem_map.mp hy
    have := List.mem_range'_1.mp hir
    rw [hi i this.1 this.2]
    omega
theorem tstep_at {A S B : List Nat} {f n : Nat} (hn : 1 ≤ n) (hS : S.Perm (List.range' f n)) (hA : ∀ i ∈ A, ¬ (f ≤ i ∧ i < f + n)) : tstep (A ++ S ++ B) (f, f + n) = A ++ S.reverse ++ B := by
  have hl : S.length = n := by rw [hS.length_eq, List.length_range']
  have e : A ++ S ++ B = A ++ (S ++ B) := List.append_assoc _ _ _
  unfold tstep
  dsimp only
  rw [Nat.add_sub_cancel_left, minIx_at hn hS hA]
  have h1 : (A ++ S ++ B).take A.length = A := by rw [e, List.take_append_of_le_length (Nat.le_refl _), List.take_length]
  have h2 : (A ++ S ++ B).drop A.length = S ++ B := by rw [e, List.drop_append_of_le_length (Nat.le_refl _), List.drop_length, List.nil_append]
  have h3 : (A ++ S ++ B).drop (A.length + n) = B := by rw [← hl, ← List.length_append, List.drop_append_of_le_length (Nat.le_refl _), List.drop_length, List.nil_append]
  rw [h1, h2, h3, ← hl, List.take_append_of_le_length (Nat.le_refl _), List.take_length]
def shP (k : Nat) (ps : List (Nat × Nat)) : List (Nat × Nat) := ps.map fun p => (p.1 + k, p.2 + k)
theorem shP_sh (a b : Nat) (ps : List (Nat × Nat)) : shP a (shP b ps) = shP (b + a) ps := by
  unfold shP
  rw [List.map_map]
  exact List.map_congr_left fun p _ => by simp [Nat.add_assoc]
theorem Seg.turn {a w : List Str} {p : List (Nat × Nat)} {r : List Nat} (h : Seg a w p r) : ∀ (off : Nat) (A B : List Nat), (∀ i ∈ A, ¬ (off ≤ i ∧ i < off + w.length)) →
    (shP off p).foldl tstep (A ++ List.range' off w.length ++ B) = A ++ r.map (· + off) ++ B ∧ (shP off p).foldl tstep (A ++ (List.range' off w.length).reverse ++ B) = A ++ (r.map (· + off)).reverse ++ B := by
  induction h with
  | nil => intro off A B _; exact ⟨by simp [shP], by simp [shP]⟩
  | word h => intro off A B _; exact ⟨by simp [shP], by simp [shP]⟩
  | @app a b wa wb pa pb ra rb h1 h2 i1 i2 =>
    intro off A B hA
    rw [List.length_append] at hA ⊢
    have e0 : shP off (pa ++ shP wa.length pb) = shP off pa ++ shP (off + wa.length) pb := by
      rw [show shP off (pa ++ shP wa.length pb) = shP off pa ++ shP off (shP wa.length pb) by simp [shP], shP_sh, Nat.add_comm]
    have er : (ra ++ rb.map (· + wa.length)).map (· + off) = ra.map (· + off) ++ rb.map (· + (off + wa.length)) := by
      rw [List.map_append, List.map_map]
      congr 1
      exact List.map_congr_left fun i _ => by simp; omega
    have es : List.range' off (wa.length + wb.length) = List.range' off wa.length ++ List.range' (off + wa.length) wb.length := by
      rw [List.range'_append_1]
    have pr : ∀ i ∈ ra.map (· + off), i < off + wa.length := fun i hi => by
      obtain ⟨j, hj, rfl⟩ := List.mem_map.mp hi
      have := h1.lt j hj
      omega
    show (shP off (pa ++ shP wa.length pb)).foldl tstep _ = _ ∧ (shP off (pa ++ shP wa.length pb)).foldl tstep _ = _
    rw [e0, er, es, List.foldl_append, List.foldl_append]
    constructor
    · rw [show A ++ (List.range' off wa.length ++ List.range' (off + wa.length) wb.length) ++ B = A ++ List.range' off wa.length ++ (List.range' (off + wa.length) wb.length ++ B) by simp only [List.append_assoc],
        (i1 off A _ fun i hi hh => hA i hi (by omega)).1, show A ++ ra.map (· + off) ++ (List.range' (off + wa.length) wb.length ++ B) = (A ++ ra.map (· + off)) ++ List.range' (off + wa.length) wb.length ++ B by simp only [List.append_assoc],
        (i2 (off + wa.length) _ B fun i hi hh => ?_).1]
      · simp only [List.append_assoc]
      · rcases List.mem_append.mp hi with hi | hi
        · exact hA i hi (by omega)
        · have := pr i hi; omega
    · rw [List.reverse_append, List.reverse_append, show A ++ ((List.range' (off + wa.length) wb.length).reverse ++ (List.range' off wa.length).reverse) ++ B = (A ++ (List.range' (off + wa.length) wb.length).reverse) ++ (List.range' off wa.length).reverse ++ B by simp only [List.append_assoc],
        (i1 off _ B fun i hi hh => ?_).2, show A ++ (List.range' (off + wa.length) wb.length).reverse ++ (ra.map (· + off)).reverse ++ B = A ++ (List.range' (off + wa.length) wb.length).reverse ++ ((ra.map (· + off)).reverse ++ B) by simp only [List.append_assoc],
        (i2 (off + wa.length) A _ fun i hi hh => hA i hi (by omega)).2]
      · simp only [List.append_assoc]
      · rcases List.mem_append.mp hi with hi | hi
        · exact hA i hi (by omega)
        · have := List.mem_range'_1.mp (List.mem_reverse.mp hi); omega
  | @pair a w p r h h2 ih =>
    intro off A B hA
    have e0 : shP off ((0, w.length) :: p) = (off, off + w.length) :: shP off p := by simp [shP, Nat.add_comm]
    rw [e0, List.foldl_cons, List.foldl_cons]
    constructor
    · rw [tstep_at (by omega) (.refl _) hA, (ih off A B hA).2, List.map_reverse]
    · rw [tstep_at (by omega) (List.reverse_perm _) hA, List.reverse_reverse, (ih off A B hA).1, List.map_reverse, List.reverse_reverse]
theorem Seg.turned {a w : List Str} {p : List (Nat × Nat)} {r : List Nat} (h : Seg a w p r) : p.foldl tstep (List.range w.length) = r := by
  have := (h.turn 0 [] [] (by simp)).1
  simpa [shP, List.range_eq_range'] using this
end Tn
namespace Tn
open PySem L2
def prT : List Str → List Str → List (Nat × Nat) → List Nat → Option (List Str × List (Nat × Nat))
  | [], W, P, _ => some (W, P)
  | x :: r, W, P, pl => if x = "<" then prT r W (P ++ [(W.length, 0)]) (P.length :: pl) else if x = ">" then (match pl with
      | [] => none
      | k :: pl => if k < P.length then prT r W (P.modify k fun p => (p.1, W.length)) pl else none) else prT r (W ++ [x]) P pl
theorem modify_mid {P Q : List (Nat × Nat)} {x : Nat × Nat} {f : Nat × Nat → Nat × Nat} : (P ++ x :: Q).modify P.length f = P ++ f x :: Q := by
  induction P with
  | nil => rfl
  | cons a P ih => simp [ih]
theorem Seg.prs {a w : List Str} {p : List (Nat × Nat)} {r : List Nat} (h : Seg a w p r) : ∀ (rest W : List Str) (P : List (Nat × Nat)) (pl : List Nat), prT (a ++ rest) W P pl = prT rest (W ++ w) (P ++ shP W.length p) pl := by
  induction h with
  | nil => intro rest W P pl; simp [shP]
  | @word x h =>
    intro rest W P pl
    show prT (x :: rest) W P pl = _
    rw [prT.eq_def]
    dsimp only
    rw [if_neg (isW_lt h), if_neg (isW_gt h)]
    simp [shP]
  | @app a b wa wb pa pb ra rb h1 h2 i1 i2 =>
    intro rest W P pl
    rw [List.append_assoc, i1, i2]
    have e : shP W.length (pa ++ shP wa.length pb) = shP W.length pa ++ shP (W ++ wa).length pb := by
      rw [show shP W.length (pa ++ shP wa.length pb) = shP W.length pa ++ shP W.length (shP wa.length pb) by simp [shP], shP_sh, List.length_append, Nat.add_comm]
    show _ = prT rest _ (P ++ shP W.length (pa ++ shP wa.length pb)) pl
    rw [e]
    simp only [List.append_assoc]
  | @pair a w p r h h2 ih =>
    intro rest W P pl
    show prT ("<" :: (a ++ [(">" : Str)] ++ rest)) W P pl = _
    rw [prT.eq_def]
    dsimp only
    rw [if_pos rfl, List.append_assoc, ih]
    show prT (">" :: rest) _ _ _ = _
    rw [prT.eq_def]
    dsimp only
    rw [if_neg (by decide +kernel), if_pos rfl, if_pos (by simp only [List.length_append, List.length_cons]; omega)]
    rw [List.append_assoc, show [(W.length, 0)] ++ shP W.length p = (W.length, 0) :: shP W.length p from rfl, modify_mid]
    simp [shP, Nat.add_comm]
theorem Seg.pairs {a w : List Str} {p : List (Nat × Nat)} {r : List Nat} (h : Seg a w p r) : prT a [] [] [] = some (w, p) := by
  have := h.prs [] [] [] []
  rw [List.append_nil, List.nil_append, List.nil_append] at this
  rw [this, prT.eq_def]
  simp [shP]
theorem Seg.two {a w : List Str} {p : List (Nat × Nat)} {r : List Nat} (h : Seg a w p r) : ∀ x ∈ p, x.1 + 2 ≤ x.2 ∧ x.2 ≤ w.length := by
  induction h with
  | nil => intro x h; cases h
  | word h => intro x h; cases h
  | app _ _ i1 i2 =>
    intro x hx
    rw [List.length_append]
    rcases List.mem_append.mp hx with hx | hx
    · have := i1 x hx; omega
    · obtain ⟨y, hy, rfl⟩ := List.mem_map.mp hx
      have := i2 y hy
      dsimp only
      omega
  | pair _ h2 ih =>
    intro x hx
    rcases List.mem_cons.mp hx with rfl | hx
    · dsimp only; omega
    · exact ih x hx
def notMk (x : Str) : Bool := !decide (x = "<") && !decide (x = ">")
theorem Seg.count {a w : List Str} {p : List (Nat × Nat)} {r : List Nat} (h : Seg a w p r) : a.filter notMk = w := by
  induction h with
  | nil => rfl
  | @word x h => rw [List.filter_cons_of_pos (by simp [notMk, isW_lt h, isW_gt h])]; rfl
  | app _ _ i1 i2 => rw [List.filter_append, i1, i2]
  | pair _ _ ih =>
    rw [List.filter_cons_of_neg (by decide +kernel), List.filter_append, ih, List.filter_cons_of_neg (by decide +kernel)]
    simp
inductive Opn : List Str → List Nat → Prop
  | base {a w : List Str} {p : List (Nat × Nat)} {r : List Nat} (h : Seg a w p r) : Opn a [w.length]
  | push {b a w : List Str} {m : Nat} {ms : List Nat} {p : List (Nat × Nat)} {r : List Nat} (o : Opn b (m :: ms)) (h : Seg a w p r) : Opn (b ++ ("<" : Str) :: a) (w.length :: m :: ms)
theorem Opn.seg {b : List Str} {m : Nat} {ms : List Nat} {a w : List Str} {p : List (Nat × Nat)} {r : List Nat} (o : Opn b (m :: ms)) (h : Seg a w p r) : Opn (b ++ a) ((m + w.length) :: ms) := by
  cases o with
  | base h0 => rw [← List.length_append]; exact .base (h0.app h)
  | @push b a0 w0 m' ms' p0 r0 o h0 => rw [List.append_assoc, List.cons_append, ← List.length_append]; exact .push o (h0.app h)
theorem Opn.word {b : List Str} {m : Nat} {ms : List Nat} {x : Str} (o : Opn b (m :: ms)) (h : isW x = true) : Opn (b ++ [x]) ((m + 1) :: ms) := o.seg (.word h)
theorem Opn.open' {b : List Str} {m : Nat} {ms : List Nat} (o : Opn b (m :: ms)) : Opn (b ++ [("<" : Str)]) (0 :: m :: ms) := .push o .nil
theorem Opn.close {b : List Str} {m m' : Nat} {ms : List Nat} (o : Opn b (m :: m' :: ms)) (h : 2 ≤ m) : Opn (b ++ [(">" : Str)]) ((m' + m) :: ms) := by
  cases o with
  | @push b a w _ _ p r o hs =>
    have := o.seg (hs.pair h)
    rw [List.append_assoc]
    exact this
theorem Opn.ne {b : List Str} {ms : List Nat} (o : Opn b ms) : ∃ m r, ms = m :: r := by
  cases o with
  | base h => exact ⟨_, _, rfl⟩
  | push o h => exact ⟨_, _, rfl⟩
theorem Opn.count {b : List Str} {ms : List Nat} (o : Opn b ms) : (b.filter notMk).length = ms.sum := by
  induction o with
  | base h => rw [h.count]; simp
  | @push b a w m ms p r o h ih =>
    rw [List.filter_append, List.filter_cons_of_neg (by decide +kernel), List.length_append, ih, h.count, List.sum_cons, List.sum_cons, List.sum_cons]
    omega
theorem Opn.pieces {b : List Str} {ms : List Nat} (o : Opn b ms) : ∀ x ∈ b, x = "<" ∨ x = ">" ∨ isW x = true := by
  induction o with
  | base h => exact h.pieces
  | push o h ih =>
    intro x hx
    rcases List.mem_append.mp hx with hx | hx
    · exact ih x hx
    · rcases List.mem_cons.mp hx with e | hx
      · exact .inl e
      · exact h.pieces x hx
theorem Opn.done {b : List Str} {m : Nat} (o : Opn b [m]) : ∃ w p r, Seg b w p r ∧ w.length = m := by
  cases o with
  | base h => exact ⟨_, _, _, h, rfl⟩
mutual
def mkP : Nest → List Str → List Str
  | .word, ws => [ws.headD ""]
  | .bad, _ => []
  | .knot _ ps, ws => "<" :: (mkPL ps ws ++ [(">" : Str)])
def mkPL : List Nest → List Str → List Str
  | [], _ => []
  | n :: r, ws => mkP n (ws.take (words n)) ++ mkPL r (ws.drop (words n))
end
def wrP : Nest → List Str → List Str
  | .knot true ps, ws => mkPL ps ws
  | n, ws => mkP n ws
mutual
theorem fit_words : ∀ {n : Nest}, fit n = true → 1 ≤ words n
  | .word, _ => Nat.le_refl _
  | .bad, h => by simp [fit] at h
  | .knot k ps, h => by
    simp only [fit, Bool.and_eq_true, decide_eq_true_eq] at h
    have := fitL_words h.2
    simp only [words]
    omega
theorem fitL_words : ∀ {ps : List Nest}, fitL ps = true → ps.length ≤ wordsL ps
  | [], _ => Nat.le_refl _
  | n :: r, h => by
    simp only [fitL, Bool.and_eq_true] at h
    have h1 := fit_words h.1
    have h2 := fitL_words h.2
    simp only [wordsL, List.length_cons]
    omega
end
theorem part_kind {k : Bool} {n : Nest} (h : valid (some k) n = true) : ofK k n = false := by
  cases n with
  | word => rfl
  | bad => rfl
  | knot k2 ps =>
    simp only [valid, Bool.and_eq_true] at h
    show decide (k2 = k) = false
    have h1 := h.1
    simp at h1
    exact decide_eq_false fun z => h1 z.symm
mutual
theorem seg_n : ∀ (n : Nest) (o : Option Bool) (ws : List Str), valid o n = true → fit n = true → ws.length = words n → (∀ x ∈ ws, isW x = true) → ∃ p r, Seg (mkP n ws) ws p r ∧ ∀ f : Int, (r.map fun (i : Nat) => (i : Int) + f) = if ofK true n then (rowN n f).reverse else rowN n f
  | .word, _, ws, _, _, hl, hw => by
    match ws, hl with
    | [x], _ =>
      refine ⟨[], [0], .word (hw x (.head _)), fun f => ?_⟩
      show [((0 : Nat) : Int) + f] = [f]
      simp
  | .bad, _, _, h, _, _, _ => by simp [valid] at h
  | .knot k ps, _, ws, h, hf, hl, hw => by
    simp only [valid, Bool.and_eq_true] at h
    have hf' := hf
    simp only [fit, Bool.and_eq_true, decide_eq_true_eq] at hf
    obtain ⟨p, r, hs, hr⟩ := seg_l ps k ws h.2 hf.2 hl hw
    have h2 : 2 ≤ ws.length := by
      have := fitL_words hf.2
      have e : ws.length = wordsL ps := hl
      omega
    refine ⟨_, _, hs.pair h2, fun f => ?_⟩
    rw [List.map_reverse, hr f]
    cases k with
    | true =>
      show _ = (rowN (.knot true ps) f).reverse
      rw [rowN]
      rfl
    | false =>
      show _ = rowN (.knot false ps) f
      rw [rowN]
      show ((rowsN ps f).map List.reverse).flatten.reverse = (rowsN ps f).reverse.flatten
      rw [List.reverse_flatten, List.map_map]
      congr 1
      rw [show (List.reverse ∘ List.reverse : List Int → List Int) = id from funext fun x => List.reverse_reverse x, List.map_id]
theorem seg_l : ∀ (ps : List Nest) (k : Bool) (ws : List Str), validL k ps = true → fitL ps = true → ws.length = wordsL ps → (∀ x ∈ ws, isW x = true) → ∃ p r, Seg (mkPL ps ws) ws p r ∧ ∀ f : Int, (r.map fun (i : Nat) => (i : Int) + f) = (if k then (rowsN ps f) else (rowsN ps f).map List.reverse).flatten
  | [], k, ws, _, _, hl, _ => by
    have : ws = [] := List.length_eq_zero_iff.mp hl
    subst this
    exact ⟨[], [], .nil, fun f => by cases k <;> rfl⟩
  | n :: r, k, ws, hv, hf, hl, hw => by
    simp only [validL, Bool.and_eq_true] at hv
    simp only [fitL, Bool.and_eq_true] at hf
    simp only [wordsL] at hl
    obtain ⟨p1, r1, s1, e1⟩ := seg_n n (some k) (ws.take (words n)) hv.1 hf.1 (by rw [List.length_take]; omega) fun x hx => hw x (List.mem_of_mem_take hx)
    obtain ⟨p2, r2, s2, e2⟩ := seg_l r k (ws.drop (words n)) hv.2 hf.2 (by rw [List.length_drop]; omega) fun x hx => hw x (List.mem_of_mem_drop hx)
    have hs := s1.app s2
    rw [List.take_append_drop] at hs
    refine ⟨_, _, hs, fun f => ?_⟩
    have hlt : (ws.take (words n)).length = words n := by rw [List.length_take]; omega
    have hrl := row_len f hv.1
    rw [List.map_append, List.map_map, e1 f, rowsN, hlt]
    have e3 : (r2.map ((fun (i : Nat) => (i : Int) + f) ∘ fun x => x + words n)) = (if k then rowsN r (f + (words n : Int)) else (rowsN r (f + (words n : Int))).map List.reverse).flatten := by
      rw [← e2 (f + (words n : Int))]
      refine List.map_congr_left fun i _ => ?_
      show ((i + words n : Nat) : Int) + f = _
      omega
    rw [e3, hrl]
    have hk := part_kind hv.1
    cases k with
    | true => rw [hk]; rfl
    | false =>
      have e4 : (if ofK true n then (rowN n f).reverse else rowN n f) = (rowN n f).reverse := by
        cases n with
        | word => simp [ofK, rowN]
        | bad => simp [rowN]
        | knot k2 ps2 =>
          have : k2 = true := by
            have h0 : decide (k2 = false) = false := hk
            cases k2
            · simp at h0
            · rfl
          subst this
          rfl
      rw [e4]
      rfl
end
theorem seg_wr {n : Nest} {ws : List Str} (hv : valid none n = true) (hf : fit n = true) (hl : ws.length = words n) (hw : ∀ x ∈ ws, isW x = true) : ∃ p r, Seg (wrP n ws) ws p r ∧ (r.map fun (i : Nat) => (i : Int)) = rowN n 0 := by
  have fin : ∀ {p r}, Seg (mkP n ws) ws p r → (∀ f : Int, (r.map fun (i : Nat) => (i : Int) + f) = if ofK true n then (rowN n f).reverse else rowN n f) → ofK true n = false → wrP n ws = mkP n ws → ∃ p r, Seg (wrP n ws) ws p r ∧ (r.map fun (i : Nat) => (i : Int)) = rowN n 0 := fun {p r} hs hr hk he => by
    refine ⟨p, r, he ▸ hs, ?_⟩
    have := hr 0
    rw [hk] at this
    simpa using this
  cases n with
  | bad => simp [valid] at hv
  | word =>
    obtain ⟨p, r, hs, hr⟩ := seg_n _ none ws hv hf hl hw
    exact fin hs hr rfl rfl
  | knot k ps =>
    cases k with
    | false =>
      obtain ⟨p, r, hs, hr⟩ := seg_n _ none ws hv hf hl hw
      exact fin hs hr rfl rfl
    | true =>
      simp only [valid, Bool.and_eq_true] at hv
      simp only [fit, Bool.and_eq_true] at hf
      obtain ⟨p, r, hs, hr⟩ := seg_l ps true ws hv.2 hf.2 hl hw
      refine ⟨p, r, hs, ?_⟩
      have := hr 0
      rw [rowN]
      simpa using this
end Tn
namespace Tn
open PySem L2
theorem range_getD : ∀ (bs : List Bool), (List.range bs.length).map (fun i => V.bl (bs.getD i true)) = bs.map V.bl := fun bs => by
  apply List.ext_getElem
  · simp
  · intro i h1 h2
    simp at h1
    simp [List.getD, h1]
theorem all_getD : ∀ (bs : List Bool), ((List.range bs.length).all fun i => bs.getD i true) = bs.all id := fun bs => by
  rw [Bool.eq_iff_iff]
  simp only [List.all_eq_true, List.mem_range]
  constructor
  · intro h b hb
    obtain ⟨i, hi, rfl⟩ := List.getElem_of_mem hb
    have := h i hi
    simpa [List.getD, hi] using this
  · intro h i hi
    have := h bs[i] (List.getElem_mem hi)
    simpa [List.getD, hi] using this
def wordSigns : Str := "abcdefghijklmnopqrstuvwxyz0123456789"
def spIsWord : Sp := fun vs H Q _ => ∃ x : Str, vs = [.str x] ∧ x.length ≤ 1000 ∧ ∀ H', Same H H' → Q (.bl (isW x)) H'
def spMustRow (K : PySem.W.Frag) : Sp := fun vs H Q _ => ∃ (l : Addr) (ws : List Str), vs = [.ref l] ∧ SqL K H l (ws.map V.str) ∧ okRow ws = true ∧ ∀ H', Same H H' → Q .non H'
def spTurnedF : Sp := fun vs H Q _ => ∃ (l : Addr) (us : List V) (f : Nat), vs = [.ref l, .int f] ∧ H l = some (.lst us) ∧ us.length ≤ 1000 ∧ f + 2 ≤ us.length ∧ ∀ (p : Addr) (H' : Hp), H p = none → H' p = some (.lst (us.take f ++ (us.drop f).reverse)) → Same H H' → Q (.ref p) H'
def spSeenW : Sp := fun vs H Q _ => ∃ (x : Str) (row : List Str), vs = [.str x] ∧ x.length ≤ 10000 ∧ (Txt.split x " ").length ≤ 900 ∧ seeT (Txt.split x " ") [] [] = some row ∧ okRow row = true ∧ ∀ (l : Addr) (H' : Hp), H l = none → H' l = some (.lst (row.map V.str)) → Same H H' → Q (.ref l) H'
end Tn
namespace Tn
open PySem L2
theorem mkPL_take {ps : List Nest} {ws : List Str} {i : Nat} {n : Nest} (h : ps[i]? = some n) : mkPL (ps.take (i + 1)) ws = mkPL (ps.take i) ws ++ mkP n ((ws.drop (ahead ps i)).take (words n)) := by
  have app : ∀ (A B : List Nest) (ws : List Str), mkPL (A ++ B) ws = mkPL A ws ++ mkPL B (ws.drop (wordsL A)) := fun A => by
    induction A with
    | nil => intro B ws; simp [mkPL, wordsL]
    | cons a A ih =>
      intro B ws
      rw [List.cons_append, mkPL, ih, mkPL, List.append_assoc, List.drop_drop, wordsL]
  rw [List.take_succ, h, app]
  simp [mkPL, ahead]
mutual
theorem mkP_len : ∀ {n : Nest} (ws : List Str), fit n = true → (mkP n ws).length + 2 ≤ 3 * words n
  | .word, ws, _ => by simp [mkP, words]
  | .bad, _, h => by simp [fit] at h
  | .knot k ps, ws, h => by
    simp only [fit, Bool.and_eq_true, decide_eq_true_eq] at h
    have := mkPL_len ws h.2
    simp only [mkP, words, List.length_cons, List.length_append, List.length_nil]
    omega
theorem mkPL_len : ∀ {ps : List Nest} (ws : List Str), fitL ps = true → (mkPL ps ws).length + 2 * ps.length ≤ 3 * wordsL ps
  | [], _, _ => by simp [mkPL]
  | n :: r, ws, h => by
    simp only [fitL, Bool.and_eq_true] at h
    have h1 := mkP_len (ws.take (words n)) h.1
    have h2 := mkPL_len (ws.drop (words n)) h.2
    simp only [mkPL, wordsL, List.length_append, List.length_cons]
    omega
end
theorem fitL_take : ∀ {ps : List Nest} (i : Nat), fitL ps = true → fitL (ps.take i) = true
  | [], i, _ => by simp [fitL]
  | n :: r, 0, _ => by simp [fitL]
  | n :: r, i + 1, h => by
    simp only [fitL, Bool.and_eq_true, List.take_succ_cons] at h ⊢
    exact ⟨h.1, fitL_take i h.2⟩
theorem wrP_len {n : Nest} (ws : List Str) (h : fit n = true) : (wrP n ws).length + 2 ≤ 3 * words n := by
  cases n with
  | word => exact mkP_len ws h
  | bad => exact mkP_len ws h
  | knot k ps =>
    cases k with
    | false => exact mkP_len ws h
    | true =>
      simp only [fit, Bool.and_eq_true, decide_eq_true_eq] at h
      have := mkPL_len ws h.2
      simp only [wrP, words]
      omega
theorem cut_in (x y : V) (xs : List V) : cutV (x :: (xs ++ [y])) (some 1) (some (-1)) = xs := by
  have hl : (x :: (xs ++ [y])).length = xs.length + 2 := by simp
  have e1 : HT.sIx (xs.length + 2) 0 (some 1) = 1 := by
    rw [show (some (1 : Int)) = some ((1 : Nat) : Int) from rfl, HT.sIx_nat]
    omega
  have e2 : HT.sIx (xs.length + 2) (xs.length + 2) (some (-1)) = xs.length + 1 := by
    show (if (-1 : Int) < 0 then ((-1 : Int) + ((xs.length + 2 : Nat) : Int)).toNat else min (-1 : Int).toNat (xs.length + 2)) = xs.length + 1
    rw [if_pos (by decide)]
    omega
  unfold cutV
  rw [hl, e1, e2]
  simp
theorem wrP_no {n : Nest} (ws : List Str) (h : ofK true n = false) : wrP n ws = mkP n ws := by
  cases n with
  | word => rfl
  | bad => rfl
  | knot k ps =>
    cases k with
    | false => rfl
    | true => exact absurd h (by simp [ofK])
def pcs (xs : List Str) : Prop := ∀ x ∈ xs, x = "<" ∨ x = ">" ∨ isW x = true
theorem pcs_len : ∀ {xs : List Str}, pcs xs → (xs.map (·.length)).sum ≤ 8 * xs.length
  | [], _ => by simp
  | x :: r, h => by
    have h1 := pcs_len (xs := r) fun y hy => h y (.tail _ hy)
    have h2 : x.length ≤ 8 := by
      rcases h x (.head _) with e | e | e
      · rw [e]; decide +kernel
      · rw [e]; decide +kernel
      · exact (isW_len e).2
    simp only [List.map_cons, List.sum_cons, List.length_cons]
    omega
theorem blank_eq : (" " : Str) = ⟨#[32]⟩ := by decide +kernel
theorem pcs_free {xs : List Str} (h : pcs xs) : ∀ x ∈ xs, 32 ∉ x.cps.toList := fun x hx => by
  rcases h x hx with e | e | e
  · rw [e]; decide +kernel
  · rw [e]; decide +kernel
  · exact isW_free e (by decide +kernel)
theorem pcs_split {xs : List Str} (h0 : xs ≠ []) (h : pcs xs) : Txt.split (Txt.join " " xs) " " = xs := by
  rw [blank_eq]
  exact split_join 32 h0 (pcs_free h)
theorem pcs_join {xs : List Str} (h : pcs xs) : (Txt.join " " xs).length ≤ 9 * xs.length := by
  have h1 := pcs_len h
  have h2 := jn_len 32 (xs.map (·.cps.toList))
  rw [← txt_jn, ← blank_eq, List.map_map, List.length_map] at h2
  have e : (xs.map ((·.length) ∘ fun x : Str => x.cps.toList)) = xs.map (·.length) := List.map_congr_left fun x _ => by simp [Str.length]
  rw [e] at h2
  have e2 : (Txt.join " " xs).length = (Txt.join " " xs).cps.toList.length := by simp [Str.length]
  omega
def spMarked (K : PySem.W.Frag) (d : Nat) : Sp := fun vs H Q _ => ∃ (v : V) (l : Addr) (n : Nest) (o : Option Bool) (ws : List Str), vs = [v, .ref l] ∧ NestAt K H n v ∧ valid o n = true ∧ depthN n < d ∧ words n ≤ 60 ∧ SqL K H l (ws.map V.str) ∧ ws.length = words n ∧ (∀ x ∈ ws, isW x = true) ∧
  ∀ (p : Addr) (H' : Hp), H p = none → H' p = some (.lst ((mkP n ws).map V.str)) → Same H H' → Q (.ref p) H'
def spWrite (K : PySem.W.Frag) : Sp := fun vs H Q _ => ∃ (v : V) (l : Addr) (n : Nest) (ws : List Str), vs = [.ref l, v] ∧ NestAt K H n v ∧ okN n = true ∧ SqL K H l (ws.map V.str) ∧ ws.length = words n ∧ (∀ x ∈ ws, isW x = true) ∧
  ∀ (H' : Hp), Same H H' → Q (.str (Txt.join " " (wrP n ws))) H'
end Tn
namespace Tn
open PySem L2
def spWord71 : Sp := fun vs H Q _ => ∃ c : Int, vs = [.int c] ∧ ∀ x : Str, isW x = true → Q (.str x) H
def spWords71 (K : PySem.W.Frag) : Sp := fun vs H Q _ => ∃ (a : Addr) (ns : List Int) (m : Nat), vs = [.ref a, .int (m : Int)] ∧ SqL K H a (ns.map V.int) ∧ ns.length ≤ 63 ∧ m ≤ 60 ∧
  ∀ (p : Addr) (ws : List Str) (H' : Hp), H p = none → H' p = some (.lst (ws.map V.str)) → ws.length = m → (∀ x ∈ ws, isW x = true) → Same H H' → Q (.ref p) H'
def BtA (K : PySem.W.Frag) (H : Hp) : List (Option (Nest × Bool)) → List V → Prop
  | [], us => us = []
  | some p :: r, us => ∃ t v ur, us = .ref t :: ur ∧ H t = some (.tup [v, .bl p.2]) ∧ NestAt K H p.1 v ∧ BtA K H r ur
  | none :: r, us => ∃ t ur, us = .ref t :: ur ∧ H t = some (.tup [.str ">", .bl true]) ∧ BtA K H r ur
theorem BtA.mono {K : PySem.W.Frag} {H H' : Hp} (s : Same H H') : ∀ {is : List (Option (Nest × Bool))} {us : List V}, BtA K H is us → BtA K H' is us
  | [], _, h => h
  | some _ :: _, _, ⟨t, v, ur, e, h0, h1, h2⟩ => ⟨t, v, ur, e, s _ _ h0, h1.mono s, BtA.mono s h2⟩
  | none :: _, _, ⟨t, ur, e, h0, h2⟩ => ⟨t, ur, e, s _ _ h0, BtA.mono s h2⟩
theorem BtA.updL {K : PySem.W.Frag} {H : Hp} {c : Addr} {ws vs : List V} (e : H c = some (.lst ws)) : ∀ {is : List (Option (Nest × Bool))} {us : List V}, BtA K H is us → BtA K (upd H c (.lst vs)) is us
  | [], _, h => h
  | some _ :: _, _, ⟨t, v, ur, e0, h0, h1, h2⟩ => ⟨t, v, ur, e0, by rw [upd_ne (ne_of h0 e (by intro z; cases z))]; exact h0, NestAt.updL e h1, BtA.updL e h2⟩
  | none :: _, _, ⟨t, ur, e0, h0, h2⟩ => ⟨t, ur, e0, by rw [upd_ne (ne_of h0 e (by intro z; cases z))]; exact h0, BtA.updL e h2⟩
theorem BtA.len {K : PySem.W.Frag} {H : Hp} : ∀ {is : List (Option (Nest × Bool))} {us : List V}, BtA K H is us → is.length = us.length
  | [], _, h => by have h : _ = [] := h; subst h; rfl
  | some _ :: _, _, ⟨_, _, _, e, _, _, h2⟩ => by subst e; simp [BtA.len h2]
  | none :: _, _, ⟨_, _, e, _, h2⟩ => by subst e; simp [BtA.len h2]
def btP : Nest × Bool → List Str → List Str
  | (.knot _ ps, true), ws => mkPL ps ws
  | (n, _), ws => mkP n ws
def btPs : List (Option (Nest × Bool)) → List Str → List Str
  | [], _ => []
  | none :: r, ws => ">" :: btPs r ws
  | some p :: r, ws => btP p (ws.take (words p.1)) ++ btPs r (ws.drop (words p.1))
def btW : List (Option (Nest × Bool)) → Nat
  | [] => 0
  | none :: r => btW r
  | some p :: r => words p.1 + btW r
def btS : List (Option (Nest × Bool)) → Nat
  | [] => 0
  | some p :: r => 2 * sizeN p.1 + btS r
  | none :: r => 1 + btS r
def btN (ps : List Nest) : List (Option (Nest × Bool)) := ps.map fun p => some (p, false)
def spWritten71 (K : PySem.W.Frag) : Sp := fun vs H Q _ => ∃ (v : V) (l : Addr) (n : Nest) (ws : List Str), vs = [.ref l, v] ∧ NestAt K H n v ∧ okN n = true ∧ SqL K H l (ws.map V.str) ∧ ws.length = words n ∧
  ∀ (p : Addr) (H' : Hp), H p = none → H' p = some (.lst ((wrP n ws).map V.str)) → Same H H' → Q (.ref p) H'
def topB : Nest → Bool
  | .knot k _ => k
  | _ => true
def btV (is : List (Option (Nest × Bool))) : Prop := ∀ p, some p ∈ is → ∃ o, valid o p.1 = true
end Tn
namespace Tn
open PySem L2
def spLMarked (K : PySem.W.Frag) : Sp := fun vs H Q _ => ∃ (a : Addr) (ns : List Int), vs = [.ref a, .int 2, .int 60] ∧ SqL K H a (ns.map V.int) ∧ ns.length ≤ 63 ∧
  ∀ (p : Addr) (xs w : List Str) (ps : List (Nat × Nat)) (r : List Nat) (H' : Hp), H p = none → H' p = some (.lst (xs.map V.str)) → Seg xs w ps r → 1 ≤ w.length → w.length ≤ 60 → xs.length ≤ 300 → Same H H' → Q (.ref p) H'
def spLTurned (K : PySem.W.Frag) : Sp := fun vs H Q _ => ∃ (a : Addr) (xs w : List Str) (ps : List (Nat × Nat)) (r : List Nat), vs = [.ref a] ∧ SqL K H a (xs.map V.str) ∧ xs.length ≤ 400 ∧ Seg xs w ps r ∧ w.length ≤ 60 ∧
  ∀ (p : Addr) (H' : Hp), H' p = some (.lst ((rowW w r).map V.str)) → Same H H' → Q (.ref p) H'
def spLSeen (K : PySem.W.Frag) : Sp := fun vs H Q _ => ∃ (x : Str) (row : List Str) (l : Addr), vs = [.str x, .ref l] ∧ x.length ≤ 10000 ∧ (Txt.split x " ").length ≤ 900 ∧ seeT (Txt.split x " ") [] [] = some row ∧ okRow row = true ∧ SqL K H l (row.map V.str) ∧ ∀ H', Same H H' → Q (.bl true) H'
end Tn
namespace Tn
open PySem L2
theorem mk_found {x : Str} (h : x = "<" ∨ x = ">" ∨ isW x = true) : (!!(Builtin.Str.occurrences (Str.ofString "<>") x 0 (Str.ofString "<>").length 1).isEmpty) = notMk x := by
  rcases h with rfl | rfl | h
  · decide +kernel
  · decide +kernel
  · have e1 : notMk x = true := by simp [notMk, isW_lt h, isW_gt h]
    rw [e1]
    cases hb : (!(Builtin.Str.occurrences (Str.ofString "<>") x 0 (Str.ofString "<>").length 1).isEmpty) with
    | false => rfl
    | true =>
      obtain ⟨i, _, hi⟩ := (StrLaws.found_iff _ _).mp hb
      exfalso
      have hc : (Str.ofString "<>").cps.extract i (i + x.length) = x.cps := eq_of_beq hi
      have hx := isW_len h
      have hne : x.cps.toList ≠ [] := fun z => by
        have : x.length = x.cps.toList.length := by simp [Str.length]
        rw [z] at this
        simp at this
        omega
      obtain ⟨c, r, hcr⟩ := List.exists_cons_of_ne_nil hne
      have hm : c ∈ x.cps.toList := by rw [hcr]; exact .head _
      have hs := h
      simp only [isW, Bool.and_eq_true, List.all_eq_true, decide_eq_true_eq] at hs
      have hcs := hs.2 c hm
      rw [← hc, Array.toList_extract] at hm
      have h2 : c ∈ (Str.ofString "<>").cps.toList := List.mem_of_mem_drop (List.mem_of_mem_take hm)
      rw [show (Str.ofString "<>").cps.toList = [60, 62] by decide +kernel] at h2
      simp at h2
      rcases h2 with rfl | rfl
      · exact absurd hcs (by decide +kernel)
      · exact absurd hcs (by decide +kernel)
def nv (l : List Nat) : List V := l.map fun (n : Nat) => V.int n
theorem ix_last (xs : List V) (v : V) : ixN (xs ++ [v]).length (-1) = some xs.length := by
  unfold ixN
  rw [if_neg (by decide), if_pos (by simp; omega)]
  rw [List.length_append, List.length_singleton]
  congr 1
  omega
theorem set_last (xs : List V) (v u : V) : (xs ++ [v]).set xs.length u = xs ++ [u] := by
  induction xs with
  | nil => rfl
  | cons x r ih => simp [ih]
theorem nv_snoc (l : List Nat) (m : Nat) : nv (m :: l).reverse = nv l.reverse ++ [V.int (m : Int)] := by simp [nv]
theorem nv_len (l : List Nat) : (nv l).length = l.length := by simp [nv]
end Tn
namespace Tn
open PySem L2
theorem tstep_perm (row : List Nat) (p : Nat × Nat) : (tstep row p).Perm row := by
  unfold tstep
  dsimp only
  generalize minIx row p.1 (p.2 - p.1) = a
  generalize p.2 - p.1 = n
  have e : row = row.take a ++ ((row.drop a).take n ++ row.drop (a + n)) := by rw [← List.drop_drop, List.take_append_drop, List.take_append_drop]
  conv => rhs; rw [e]
  rw [List.append_assoc]
  exact (((List.reverse_perm _).append_right _)).append_left _
theorem folds_perm (ps : List (Nat × Nat)) : ∀ row : List Nat, (ps.foldl tstep row).Perm row := by
  induction ps with
  | nil => exact fun _ => .refl _
  | cons p r ih => exact fun row => (ih _).trans (tstep_perm row p)
theorem foldl_min_mem : ∀ (l : List Nat) (a : Nat), l.foldl Nat.min a = a ∨ l.foldl Nat.min a ∈ l
  | [], _ => .inl rfl
  | y :: l, a => by
    rcases foldl_min_mem l (Nat.min a y) with h | h
    · rw [List.foldl_cons, h]
      rcases Nat.le_total a y with h1 | h1
      · exact .inl (Nat.min_eq_left h1)
      · rw [show Nat.min a y = y from Nat.min_eq_right h1]; exact .inr (.head _)
    · exact .inr (.tail _ h)
def idxs (row : List Nat) (f n : Nat) : List Int := (List.range n).map fun i => ((row.idxOf (f + i) : Nat) : Int)
theorem minIx_min {row : List Nat} {f n : Nat} (hn : 1 ≤ n) : ((minIx row f n : Nat) : Int) ∈ idxs row f n ∧ ∀ z ∈ idxs row f n, ((minIx row f n : Nat) : Int) ≤ z := by
  have e : idxs row f n = ((List.range' f n).map fun i => row.idxOf i).map fun (k : Nat) => (k : Int) := by
    unfold idxs
    rw [List.map_map, List.range'_eq_map_range, List.map_map]
    rfl
  rw [e]
  constructor
  · refine List.mem_map.mpr ⟨_, ?_, rfl⟩
    unfold minIx
    rcases foldl_min_mem ((List.range' f n).map fun i => row.idxOf i) (row.idxOf f) with h | h
    · rw [h]
      exact List.mem_map.mpr ⟨f, List.mem_range'_1.mpr ⟨Nat.le_refl _, by omega⟩, rfl⟩
    · exact h
  · intro z hz
    obtain ⟨k, hk, rfl⟩ := List.mem_map.mp hz
    exact Int.ofNat_le.mpr ((foldl_min_le _ _).2 k hk)
theorem idx_at {row : List Nat} {i : Nat} (h : i ∈ row) : (row.map fun (k : Nat) => (k : Int))[row.idxOf i]? = some (i : Int) ∧ ∀ m, m < row.idxOf i → (row.map fun (k : Nat) => (k : Int))[m]? ≠ some (i : Int) := by
  induction row with
  | nil => cases h
  | cons x r ih =>
    by_cases hx : x = i
    · subst hx
      rw [List.idxOf_cons_self]
      exact ⟨rfl, fun m hm => absurd hm (Nat.not_lt_zero _)⟩
    · rw [List.idxOf_cons, show (x == i) = false from beq_eq_false_iff_ne.mpr hx, cond_false]
      obtain ⟨h1, h2⟩ := ih ((List.mem_cons.mp h).resolve_left fun z => hx z.symm)
      refine ⟨by simpa using h1, fun m hm => ?_⟩
      cases m with
      | zero => simp; omega
      | succ m => simpa using h2 m (by omega)
theorem minIx_le {row : List Nat} {f n : Nat} (hn : 1 ≤ n) (h : f ∈ row) : minIx row f n < row.length := by
  have := (foldl_min_le ((List.range' f n).map fun i => row.idxOf i) (row.idxOf f)).1
  have h2 := List.idxOf_lt_length_of_mem h
  unfold minIx
  omega
def pv2 (p : Nat × Nat) : List V := [V.int (p.1 : Int), V.int (p.2 : Int)]
theorem VLs.setAt {H : Hp} {r : Addr} {y : List V} : ∀ {rs : List Addr} {xss : List (List V)} {k : Nat}, rs.Nodup → VLs H rs xss → rs[k]? = some r → VLs (L2.upd H r (.lst y)) rs (xss.set k y)
  | _, _, _, _, .nil, e => by simp at e
  | _ :: _, _, 0, nd, .cons h t, e => by
    simp at e
    subst e
    exact .cons upd_same (VLs.upd (List.nodup_cons.mp nd).1 t)
  | p :: _, _, k + 1, nd, .cons h t, e => by
    have hm := List.mem_of_getElem? (by simpa using e : _)
    refine .cons ?_ (VLs.setAt (k := k) (List.nodup_cons.mp nd).2 t (by simpa using e))
    have hne : p ≠ r := fun z => (List.nodup_cons.mp nd).1 (by rw [z]; exact hm)
    rw [upd_ne hne]
    exact h
theorem pv2_modify (f : Nat × Nat → Nat × Nat) : ∀ (P : List (Nat × Nat)) (k : Nat) (p : Nat × Nat), P[k]? = some p → (P.modify k f).map pv2 = (P.map pv2).set k (pv2 (f p))
  | [], _, _, h => by simp at h
  | q :: P, 0, p, h => by simp at h; subst h; simp
  | q :: P, k + 1, p, h => by
    have := pv2_modify f P k p (by simpa using h)
    simpa using this
theorem Seg.ne {a w : List Str} {p : List (Nat × Nat)} {r : List Nat} (h : Seg a w p r) (h1 : 1 ≤ w.length) : a ≠ [] := fun z => by
  have := h.count
  rw [z] at this
  rw [← this] at h1
  exact absurd h1 (by decide)
theorem Seg.text {a w : List Str} {p : List (Nat × Nat)} {r : List Nat} (h : Seg a w p r) (h1 : 1 ≤ w.length) (h2 : a.length ≤ 400) : (Txt.join " " a).length ≤ 10000 ∧ (Txt.split (Txt.join " " a) " ").length ≤ 900 ∧ seeT (Txt.split (Txt.join " " a) " ") [] [] = some (rowW w r) := by
  have hj := pcs_join h.pieces
  rw [pcs_split (h.ne h1) h.pieces]
  exact ⟨by omega, by omega, h.seen⟩
theorem Seg.joins {a w : List Str} {p : List (Nat × Nat)} {r : List Nat} (h : Seg a w p r) (h2 : a.length ≤ 400) : (a.map (·.length)).sum + a.length * (" " : Str).length ≤ 16777216 := by
  have hj := pcs_len h.pieces
  rw [show (" " : Str).length = 1 by decide +kernel]
  omega
theorem cutMid (xs : List V) (a b : Nat) (h : a ≤ xs.length) : cutV xs (some (a : Int)) (some (b : Int)) = (xs.drop a).take (b - a) := by
  unfold cutV
  rw [HT.sIx_nat, HT.sIx_nat, Nat.min_eq_left h]
  by_cases hb : b ≤ xs.length
  · rw [Nat.min_eq_left hb]
  · rw [Nat.min_eq_right (by omega), List.take_of_length_le (by rw [List.length_drop]; omega), List.take_of_length_le (by rw [List.length_drop]; omega)]
theorem cutEnd (xs : List V) (k : Nat) : cutV xs (some (k : Int)) none = xs.drop k := by
  have e : HT.sIx xs.length xs.length none = xs.length := rfl
  unfold cutV
  rw [HT.sIx_nat, e]
  by_cases hb : k ≤ xs.length
  · rw [Nat.min_eq_left hb, List.take_of_length_le (by rw [List.length_drop]; omega)]
  · rw [Nat.min_eq_right (by omega), Nat.sub_self, List.take_zero, List.drop_eq_nil_of_le (by omega)]
theorem eqKs_strs : ∀ (xs : List Str), eqKs (xs.map V.str) (xs.map V.str) = some true
  | [] => rfl
  | x :: xs => by
    show ((eqK (.str x) (.str x)).bind fun b => (eqKs (xs.map V.str) (xs.map V.str)).map fun c => b && c) = _
    rw [eqKs_strs xs]
    simp [eqK, flatV, eqV]
theorem sign_at {j : Int} (h0 : 0 ≤ j) (h1 : j < 36) : ∃ c, atI wordSigns.cps.toList j = some c ∧ c ∈ signs := by
  obtain ⟨n, rfl⟩ : ∃ n : Nat, j = (n : Int) := ⟨j.toNat, by omega⟩
  have hl : signs.length = 36 := by decide +kernel
  have hn : n < signs.length := by omega
  refine ⟨signs[n], ?_, List.getElem_mem hn⟩
  exact atI_nat (List.getElem?_eq_getElem hn)
end Tn
namespace Tn
open PySem L2
mutual
def kN : Nest → Nat
  | .word => 0
  | .bad => 0
  | .knot _ ps => 1 + kL ps
def kL : List Nest → Nat
  | [] => 0
  | n :: r => kN n + kL r
end
theorem kL_app : ∀ (a b : List Nest), kL (a ++ b) = kL a + kL b
  | [], b => by simp [kL]
  | n :: a, b => by simp only [List.cons_append, kL, kL_app a b]; omega
theorem depthL_app : ∀ (a b : List Nest), depthL (a ++ b) = Nat.max (depthL a) (depthL b)
  | [], b => by simp [depthL]
  | n :: a, b => by simp only [List.cons_append, depthL, depthL_app a b]; exact (Nat.max_assoc _ _ _).symm
theorem fitL_app : ∀ (a b : List Nest), fitL (a ++ b) = (fitL a && fitL b)
  | [], b => by simp [fitL]
  | n :: a, b => by simp only [List.cons_append, fitL, fitL_app a b, Bool.and_assoc]
mutual
theorem mir_k : ∀ n : Nest, kN (mirN n) = kN n
  | .word => rfl
  | .knot k ps => by simp only [mirN, kN, mir_kL ps]
  | .bad => rfl
theorem mir_kL : ∀ ps : List Nest, kL (mirL ps) = kL ps
  | [] => rfl
  | n :: r => by simp only [mirL, kL, mir_k n, mir_kL r]
end
theorem mirL_len (ps : List Nest) : (mirL ps).length = ps.length := by rw [mirL_map, List.length_map]
mutual
theorem mir_fit : ∀ n : Nest, fit (mirN n) = fit n
  | .word => rfl
  | .knot k ps => by simp only [mirN, fit, mirL_len, mir_fitL ps]
  | .bad => rfl
theorem mir_fitL : ∀ ps : List Nest, fitL (mirL ps) = fitL ps
  | [] => rfl
  | n :: r => by simp only [mirL, fitL, mir_fit n, mir_fitL r]
end
def wrK (n : Nest) : Nat := kL (partsOf true n)
def wrD (n : Nest) : Nat := depthL (partsOf true n)
theorem wr_word : wrK .word = 0 ∧ wrD .word = 0 := ⟨rfl, rfl⟩
theorem wr_true (ps : List Nest) : wrK (.knot true ps) = kL ps ∧ wrD (.knot true ps) = depthL ps := ⟨rfl, rfl⟩
theorem wr_false (ps : List Nest) : wrK (.knot false ps) = 1 + kL ps ∧ wrD (.knot false ps) = 1 + depthL ps := by
  unfold wrK wrD partsOf
  simp [kL, kN, depthL, depthN]
def depZ : List Str → Int → Int → Int
  | [], _, m => m
  | x :: r, h, m => let h' := h + (if x = "<" then 1 else 0) - (if x = ">" then 1 else 0); depZ r h' (max m h')
theorem depZ_word {x : Str} (hx : isW x = true) (r : List Str) {h m : Int} (hm : h ≤ m) : depZ (x :: r) h m = depZ r h m := by
  rw [depZ]
  simp only [isW_lt hx, isW_gt hx, if_false]
  rw [show h + 0 - 0 = h by omega, Int.max_eq_left hm]
theorem depZ_open (r : List Str) {h m : Int} : depZ (("<" : Str) :: r) h m = depZ r (h + 1) (max m (h + 1)) := by
  rw [depZ, if_pos rfl, if_neg (by decide +kernel), Int.sub_zero]
theorem depZ_close (r : List Str) {h m : Int} : depZ ((">" : Str) :: r) h m = depZ r (h - 1) (max m (h - 1)) := by
  rw [depZ, if_neg (by decide +kernel), if_pos rfl, Int.add_zero]
theorem join_nest {n1 n2 : Nest} (v1 : valid none n1 = true) (v2 : valid none n2 = true) (f1 : fit n1 = true) (f2 : fit n2 = true) : ∃ n, valid none n = true ∧ fit n = true ∧ words n = words n1 + words n2 ∧ rowN n 0 = rowN n1 0 ++ rowN n2 (words n1 : Int) ∧ wrK n = wrK n1 + wrK n2 ∧ wrD n = Nat.max (wrD n1) (wrD n2) := by
  have hv := joinL_valid (k := true) (qs := [n1, n2]) fun q hq => by
    rcases List.mem_cons.mp hq with rfl | hq
    · exact v1
    · rw [List.mem_singleton.mp hq]; exact v2
  have hj := join_rows (k := true) [n1, n2] 0
  have fp : ∀ {n : Nest}, fit n = true → fitL (partsOf true n) = true ∧ 1 ≤ (partsOf true n).length := fun {n} h => by
    cases n with
    | word => exact ⟨rfl, Nat.le_refl _⟩
    | bad => simp [fit] at h
    | knot k ps =>
      cases k with
      | true =>
        simp only [fit, Bool.and_eq_true, decide_eq_true_eq] at h
        exact ⟨h.2, show 1 ≤ ps.length by omega⟩
      | false => exact ⟨by simp [partsOf, fitL, h], by simp [partsOf]⟩
  have e : [n1, n2].flatMap (partsOf true) = partsOf true n1 ++ partsOf true n2 := by simp
  rw [e] at hv hj
  refine ⟨.knot true (partsOf true n1 ++ partsOf true n2), ?_, ?_, ?_, ?_, ?_, ?_⟩
  · simp [valid, hv.1]
  · have a1 := fp f1
    have a2 := fp f2
    rw [fit, fitL_app, a1.1, a2.1]
    simp
    omega
  · rw [words, hv.2]
    simp [wordsL]
  · rw [row_seen, hj]
    simp [seenB, rowsN, row_len 0 v1]
  · rw [(wr_true _).1, kL_app]; rfl
  · rw [(wr_true _).2, depthL_app]; rfl
theorem Seg.least {a w : List Str} {p : List (Nat × Nat)} {r : List Nat} (h : Seg a w p r) : ∃ d : Nat, (∀ (rest : List Str) (h m : Int), h ≤ m → depZ (a ++ rest) h m = depZ rest h (max m (h + d))) ∧
    ((w = [] ∧ a = [] ∧ r = []) ∨ ∃ n, valid none n = true ∧ fit n = true ∧ Tn.words n = w.length ∧ rowN n 0 = (r.map fun (i : Nat) => (i : Int)) ∧ wrK n ≤ a.count ("<" : Str) ∧ wrD n ≤ d) := by
  induction h with
  | nil => exact ⟨0, fun rest h m hm => by rw [List.nil_append, show h + ((0 : Nat) : Int) = h by omega, Int.max_eq_left hm], .inl ⟨rfl, rfl, rfl⟩⟩
  | @word x hx =>
    refine ⟨0, fun rest h m hm => ?_, .inr ⟨.word, rfl, rfl, rfl, rfl, Nat.zero_le _, Nat.zero_le _⟩⟩
    rw [show h + ((0 : Nat) : Int) = h by omega, Int.max_eq_left hm]
    exact depZ_word hx rest hm
  | @app a b wa wb pa pb ra rb h1 h2 i1 i2 =>
    obtain ⟨d1, g1, c1⟩ := i1
    obtain ⟨d2, g2, c2⟩ := i2
    refine ⟨Nat.max d1 d2, fun rest h m hm => ?_, ?_⟩
    · rw [List.append_assoc, g1 _ _ _ hm, g2 _ _ _ (by omega)]
      congr 1
      have : ((Nat.max d1 d2 : Nat) : Int) = max (d1 : Int) (d2 : Int) := by
        show ((max d1 d2 : Nat) : Int) = _
        omega
      rw [this]
      omega
    · rcases c1 with ⟨rfl, rfl, rfl⟩ | ⟨n1, v1, f1, w1, r1, k1, e1⟩
      · rcases c2 with ⟨rfl, rfl, rfl⟩ | ⟨n2, v2, f2, w2, r2, k2, e2⟩
        · exact .inl ⟨rfl, rfl, rfl⟩
        · refine .inr ⟨n2, v2, f2, by simpa using w2, ?_, by simpa using k2, Nat.le_trans e2 (Nat.le_max_right _ _)⟩
          rw [r2]
          simp
      · rcases c2 with ⟨rfl, rfl, rfl⟩ | ⟨n2, v2, f2, w2, r2, k2, e2⟩
        · refine .inr ⟨n1, v1, f1, by simpa using w1, ?_, by simpa using k1, Nat.le_trans e1 (Nat.le_max_left _ _)⟩
          rw [r1]
          simp
        · obtain ⟨n, v, f, w, rr, k, e⟩ := join_nest v1 v2 f1 f2
          refine .inr ⟨n, v, f, by rw [w, w1, w2, List.length_append], ?_, ?_, ?_⟩
          · have hs := row_shift n2 0 (Tn.words n1 : Int)
            rw [Int.zero_add] at hs
            rw [rr, hs, r1, r2, List.map_append, List.map_map, List.map_map, w1]
            first
              | rfl
              | (congr 1; exact List.map_congr_left fun i _ => by simp)
          · rw [k, List.count_append]
            omega
          · rw [e]
            exact Nat.max_le.mpr ⟨Nat.le_trans e1 (Nat.le_max_left _ _), Nat.le_trans e2 (Nat.le_max_right _ _)⟩
  | @pair a w p r h h2 ih =>
    obtain ⟨d, g, c⟩ := ih
    refine ⟨d + 1, fun rest h m hm => ?_, ?_⟩
    · show depZ ("<" :: (a ++ [(">" : Str)] ++ rest)) h m = _
      rw [depZ_open, List.append_assoc, g _ _ _ (by omega)]
      show depZ (">" :: rest) _ _ = _
      rw [depZ_close]
      congr 1
      · omega
      · omega
    · rcases c with ⟨rfl, _, _⟩ | ⟨n, v, f, w', rr, k, e⟩
      · simp at h2
      · refine .inr ⟨mirN n, ?_, by rw [mir_fit]; exact f, by rw [mir_words]; exact w', by rw [mir_row, rr, List.map_reverse], ?_, ?_⟩
        · have := mir_valid n none
          rw [show (Option.map not none : Option Bool) = none from rfl] at this
          rw [this]; exact v
        · have hc : (("<" : Str) :: (a ++ [(">" : Str)])).count ("<" : Str) = a.count ("<" : Str) + 1 := by
            rw [List.count_cons_self, List.count_append]
            rw [show [(">" : Str)].count ("<" : Str) = 0 by decide +kernel]
          rw [hc]
          cases n with
          | word => simp [mirN, wr_word.1]
          | bad => simp [valid] at v
          | knot k2 ps =>
            cases k2 with
            | true =>
              rw [mirN, Bool.not_true, (wr_false _).1, mir_kL]
              rw [(wr_true _).1] at k
              omega
            | false =>
              rw [mirN, Bool.not_false, (wr_true _).1, mir_kL]
              rw [(wr_false _).1] at k
              omega
        · cases n with
          | word => simp [mirN, wr_word.2]
          | bad => simp [valid] at v
          | knot k2 ps =>
            cases k2 with
            | true =>
              rw [mirN, Bool.not_true, (wr_false _).2, mir_depthL]
              rw [(wr_true _).2] at e
              omega
            | false =>
              rw [mirN, Bool.not_false, (wr_true _).2, mir_depthL]
              rw [(wr_false _).2] at e
              omega
theorem count_word {x : Str} (hx : isW x = true) : [x].count ("<" : Str) = 0 := by
  rw [List.count_singleton]
  simp [isW_lt hx]
mutual
theorem mk_cnt : ∀ {n : Nest} {ws : List Str}, fit n = true → ws.length = words n → (∀ x ∈ ws, isW x = true) → (mkP n ws).count ("<" : Str) = kN n ∧ ∀ (rest : List Str) (h m : Int), h ≤ m → depZ (mkP n ws ++ rest) h m = depZ rest h (max m (h + depthN n))
  | .word, ws, _, hl, hw => by
    match ws, hl with
    | [x], _ =>
      have hx := hw x (.head _)
      refine ⟨count_word hx, fun rest h m hm => ?_⟩
      show depZ (x :: rest) h m = depZ rest h (max m (h + ((0 : Nat) : Int)))
      rw [depZ_word hx rest hm, show h + ((0 : Nat) : Int) = h by omega, Int.max_eq_left hm]
  | .bad, _, hf, _, _ => by simp [fit] at hf
  | .knot k ps, ws, hf, hl, hw => by
    simp only [fit, Bool.and_eq_true] at hf
    obtain ⟨g1, g2⟩ := mkL_cnt hf.2 hl hw
    refine ⟨?_, fun rest h m hm => ?_⟩
    · rw [mkP, List.count_cons_self, List.count_append, g1, kN, show [(">" : Str)].count ("<" : Str) = 0 by decide +kernel]
      omega
    · show depZ ("<" :: (mkPL ps ws ++ [(">" : Str)] ++ rest)) h m = _
      rw [depZ_open, List.append_assoc, g2 _ _ _ (by omega)]
      show depZ (">" :: rest) _ _ = _
      rw [depZ_close, depthN]
      congr 1
      · omega
      · omega
theorem mkL_cnt : ∀ {ps : List Nest} {ws : List Str}, fitL ps = true → ws.length = wordsL ps → (∀ x ∈ ws, isW x = true) → (mkPL ps ws).count ("<" : Str) = kL ps ∧ ∀ (rest : List Str) (h m : Int), h ≤ m → depZ (mkPL ps ws ++ rest) h m = depZ rest h (max m (h + depthL ps))
  | [], ws, _, _, _ => ⟨rfl, fun rest h m hm => by
      show depZ rest h m = depZ rest h (max m (h + ((0 : Nat) : Int)))
      rw [show h + ((0 : Nat) : Int) = h by omega, Int.max_eq_left hm]⟩
  | n :: r, ws, hf, hl, hw => by
    simp only [fitL, Bool.and_eq_true] at hf
    rw [wordsL] at hl
    obtain ⟨a1, a2⟩ := mk_cnt (ws := ws.take (words n)) hf.1 (by rw [List.length_take]; omega) fun x hx => hw x (List.mem_of_mem_take hx)
    obtain ⟨b1, b2⟩ := mkL_cnt (ws := ws.drop (words n)) hf.2 (by rw [List.length_drop]; omega) fun x hx => hw x (List.mem_of_mem_drop hx)
    refine ⟨by rw [mkPL, List.count_append, a1, b1, kL], fun rest h m hm => ?_⟩
    rw [mkPL, List.append_assoc, a2 _ _ _ hm, b2 _ _ _ (by omega), depthL]
    congr 1
    have : ((Nat.max (depthN n) (depthL r) : Nat) : Int) = max (depthN n : Int) (depthL r : Int) := by
      show ((max (depthN n) (depthL r) : Nat) : Int) = _
      omega
    rw [this]
    omega
end
end Tn
namespace Tn
open PySem L2
def isSeg (b : List Str) : Prop := ∃ w p r, Seg b w p r
def closeS (b : List Str) : List Str := if 1 < (b.filter notMk).length then ("<" : Str) :: (b ++ [(">" : Str)]) else b
theorem isSeg.app {a b : List Str} : isSeg a → isSeg b → isSeg (a ++ b) := fun ⟨_, _, _, h1⟩ ⟨_, _, _, h2⟩ => ⟨_, _, _, h1.app h2⟩
theorem isSeg.close {b : List Str} : isSeg b → isSeg (closeS b) := fun ⟨w, p, r, h⟩ => by
  unfold closeS
  rw [h.count]
  split
  · rename_i h2
    exact ⟨_, _, _, h.pair h2⟩
  · exact ⟨_, _, _, h⟩
theorem isSeg.word {x : Str} (h : isW x = true) : isSeg [x] := ⟨_, _, _, .word h⟩
theorem isSeg.nil : isSeg [] := ⟨_, _, _, .nil⟩
def allW (ss : List (List Str)) : Nat := (ss.map fun b => (b.filter notMk).length).sum
def allL (ss : List (List Str)) : Nat := (ss.map List.length).sum
def stV (ss : List (List Str)) : List (List V) := ss.map (List.map V.str)
def spClosed82 : Sp := fun vs H Q _ => ∃ (pl : Addr) (rs : List Addr) (ra rb : Addr) (a b : List Str), vs = [.ref pl] ∧ H pl = some (.lst ((rs ++ [ra] ++ [rb]).map V.ref)) ∧ H ra = some (.lst (a.map V.str)) ∧ H rb = some (.lst (b.map V.str)) ∧ ra ≠ pl ∧ rb ≠ pl ∧ a.length + b.length ≤ 900 ∧
  ∀ (rn : Addr) (H' : Hp), H rn = none → H' pl = some (.lst ((rs ++ [rn]).map V.ref)) → H' rn = some (.lst ((a ++ closeS b).map V.str)) → (∀ x o, x ≠ pl → H x = some o → H' x = some o) → Q .non H'
def spText82 (K : PySem.W.Frag) : Sp := fun vs H Q _ => ∃ (a : Addr) (ns : List Int), vs = [.ref a] ∧ SqL K H a (ns.map V.int) ∧ ns.length ≤ 60 ∧
  ∀ (p : Addr) (xs w : List Str) (ps : List (Nat × Nat)) (r : List Nat) (H' : Hp), H' p = some (.lst (xs.map V.str)) → Seg xs w ps r → 1 ≤ w.length → w.length ≤ 60 → xs.length ≤ 400 → Same H H' → Q (.ref p) H'
theorem VLs.keep {H H' : Hp} {l : Addr} (h : ∀ x o, x ≠ l → H x = some o → H' x = some o) : ∀ {rs : List Addr} {xss : List (List V)}, l ∉ rs → VLs H rs xss → VLs H' rs xss
  | _, _, _, .nil => .nil
  | _ :: _, _ :: _, hn, .cons a t => .cons (h _ _ (fun z => hn (by rw [← z]; exact List.mem_cons_self)) a) (VLs.keep h (fun z => hn (List.mem_cons_of_mem _ z)) t)
theorem Seg.pos {a w : List Str} {p : List (Nat × Nat)} {r : List Nat} (h : Seg a w p r) (h0 : a ≠ []) : 1 ≤ w.length := by
  obtain ⟨d, _, c⟩ := h.least
  rcases c with ⟨_, z, _⟩ | ⟨n, v, f, w', _⟩
  · exact absurd z h0
  · rw [← w']; exact fit_words f
def allN (st : List (List Nat)) : Nat := (st.map List.length).sum
def oT : List Str → List (List Nat) → Nat → Option (List Nat)
  | [], [x], _ => some x
  | [], _, _ => none
  | y :: r, pl, m => if y = "<" then oT r ([] :: pl) m else if y = ">" then (match pl with
      | i :: t :: pl => oT r ((t ++ i.reverse) :: pl) m
      | _ => none) else (match pl with
      | t :: pl => oT r ((t ++ [m]) :: pl) (m + 1)
      | [] => none)
def spOrder82 (K : PySem.W.Frag) : Sp := fun vs H Q _ => ∃ (a : Addr) (xs w : List Str) (ps : List (Nat × Nat)) (r : List Nat), vs = [.ref a] ∧ SqL K H a (xs.map V.str) ∧ xs.length ≤ 400 ∧ Seg xs w ps r ∧ w.length ≤ 60 ∧
  ∀ (p : Addr) (H' : Hp), H' p = some (.lst (nv r)) → Same H H' → Q (.ref p) H'
def spDepth82 (K : PySem.W.Frag) : Sp := fun vs H Q _ => ∃ (a : Addr) (xs : List Str), vs = [.ref a] ∧ SqL K H a (xs.map V.str) ∧ Q (.int (depZ xs 0 0)) H
end Tn
namespace Tn
open L2 PySem PySem.W PySem.Calls PyProof.Rows PySem.Spec
structure RoomH (k : Nat) (A : Around) : Prop where
  dp : A.depth + 3 * k + 5 < recursionLimit
  un : A.units + 16 * k + 200 < cLine
theorem RoomH.of {k : Nat} {A : Around} (r : Room k A) : RoomH k A := ⟨r.dp, r.un⟩
theorem RoomH.mark {k : Nat} {A : Around} {h : Option Value} (r : Room k A) : RoomH k (A.mark h) := ⟨r.dp, r.un⟩
theorem RoomH.mono {j k : Nat} {A : Around} (r : RoomH k A) (h : j ≤ k) : RoomH j A := ⟨by have := r.dp; omega, by have := r.un; omega⟩
theorem RoomH.deeper {k : Nat} {A : Around} (r : RoomH (k + 1) A) (env : Env) : RoomH k (A.deeper env) :=
  ⟨by have := r.dp; show A.depth + 1 + 3 * k + 5 < _; omega, by have := r.un; show A.units + 3 + 16 * k + 200 < _; omega⟩
theorem RoomH.depth {k : Nat} {A : Around} (r : RoomH k A) : A.depth < recursionLimit := by have := r.dp; omega
theorem RoomH.units0 {k : Nat} {A : Around} (r : RoomH k A) : A.units < cLine := by have := r.un; omega
abbrev cxH (P : Program) (w : World) (K : PySem.W.Frag) (mg : Str → Option Value) (base : Heap) (N : List Str) (qual : Str) (scope : Scope) (f : Addr) (cd : Value) (A : Around) (outer : List Env) (s : Shared) (H : Hp) (E : XK) : Cx :=
  { cxOf CX0 P w K mg base N qual scope f cd A outer s H E with calm := false }
section
variable {P : Program} {w : World} {K : PySem.W.Frag} {mg : Str → Option Value} {base : Heap} {N ps : List Str} {qual : Str} {scope : Scope} {f : Addr} {cd : Value} {A : Around} {outer : List Env} {s s1 : Shared} {H : Hp} {E : XK} {us : List Value} {vs : List V}
theorem inv_startH (S : FnScope N ps scope) (e0 : Env0 P w K mg base A outer s H) (hl : vs.length = ps.length) (r : Vals vs us)
    (x : InCallC s s.heap.objs.size (bindL (envOfC qual scope s.heap.objs.size f cd).kindOf (ps.zip us) fun _ => none) (cellsFrom (s.heap.objs.size + 1) scope.names []) (bindC (envOfC qual scope s.heap.objs.size f cd).kindOf (ps.zip us) fun _ => none) s1) :
    Inv (cxH P w K mg base N qual scope f cd A outer s H E) [] (start N vs) H s1 := by
  have I : Inv (cxOf CX0 P w K mg base N qual scope f cd { A with handled := none } outer s H E) [] (start N vs) H s1 := inv_start S rfl ⟨e0.frames, e0.mod, e0.bs, e0.bsz, e0.funs, e0.frf, e0.hok, e0.bare⟩ hl r x
  have ok := I.ok
  exact ⟨⟨ok.mod, ok.kind, ok.glob, ok.blt, ok.above, ok.inj, ok.has, ok.cab, fun z => (nomatch z), ok.frames, ok.stk, ok.exf, ok.bs, ok.bsz, ok.noex, ok.exfs, ok.funs, ok.frf⟩, I.os, I.bare, I.base, I.loc, I.cell, I.free, I.freeC, I.pin, I.hok, I.len⟩
end
structure FnOkH (P : Program) (w : World) (K : PySem.W.Frag) (mg : Str → Option Value) (base : Heap) (k : Nat) (f : Addr) (fd : FuncData) (ps : List Str) (sp : Sp) : Prop where
  len : ∀ vs H Q E, sp vs H Q E → vs.length = ps.length
  run : ∀ (A : Around) (outer : List Env) (s : Shared) (H : Hp) (args : Args) (us : List Value) (vs : List V) (Q : VK) (E : XK), RoomH k A → Env0 P w K mg base A outer s H → BindsTo s fd args (ps.zip us) → Vals vs us → sp vs H Q E →
    codeAny (model P w) A (.call (.ref f) args) (CR CX0 outer P w H s Q E) s
theorem fn_ofH {P : Program} {w : World} {K : PySem.W.Frag} {mg : Str → Option Value} {base : Heap} {k : Nat} {f : Addr} {name qual : Str} {params : Arguments} {body : List Stmt} {scope : Scope} {dV kV doc pm cdv ct oc : Value} {an od : Option Addr}
    {osl : Array (Option Value)} {N ps : List Str} {sp : Sp} (lk : K.lookup f = some ⟨oc, od, .func (PySem.W.fnOf name qual params body scope dV kV doc pm an cdv ct), osl⟩) (hcd : PySem.W.codeIn K cdv qual = true) (S : FnScope N ps scope)
    (len : ∀ vs H Q E, sp vs H Q E → vs.length = ps.length)
    (hbody : ∀ (A : Around) (outer : List Env) (s : Shared) (H : Hp) (vs : List V) (Q : VK) (E : XK), RoomH k (A.deeper (envOfC qual scope s.heap.objs.size f cdv)) → sp vs H Q E →
      ∃ t, PSs (cxH P w K mg base N qual scope f cdv A outer s H E) body t ∧ t { nx := fun _ H' => Q .non H', rt := Q } (start N vs) H) :
    FnOkH P w K mg base (k + 1) f (PySem.W.fnOf name qual params body scope dV kV doc pm an cdv ct) ps sp := by
  refine ⟨len, fun A outer s H args us vs Q E hr e0 hb r hsp => ?_⟩
  have hl := len _ _ _ _ hsp
  have KX : K.In s.heap := e0.mod.kin.keeps fun b o e => (e0.bs b o e).1
  have lim : s.heap.NoLimit := e0.mod.nolimit.keeps fun b o e => (e0.bs b o e).1
  have hkind : ∀ y ∈ ps.zip us, scope.names.lookup y.1 = some .local ∨ (scope.names.lookup y.1 = some .cell ∧ ((cellsFrom (s.heap.objs.size + 1) scope.names []).lookup y.1).isSome = true) := fun ⟨n, v⟩ hy => by
    rcases S.par n (List.of_mem_zip hy).1 with q | q
    · exact .inl q
    · exact .inr ⟨q, PySem.W.cellsFrom_some _ _ _ (.inl q)⟩
  refine codeAny_call_function hr.depth (KX _ _ lk) rfl S.co S.gen rfl (PySem.W.codeRec_of KX hcd) (hb _ _ _ _ ?_)
  refine wpAny_newFunctionEnv_cells S.kind hkind fun env he s1 x => ?_
  subst he
  refine ⟨lim.keeps x.toInCall.keep, codeAny_func ?_⟩
  obtain ⟨t, ht, hq⟩ := hbody A outer s H vs Q E (hr.deeper _) hsp
  have I : Inv (cxH P w K mg base N qual scope f cdv A outer s H E) [] (start N vs) H s1 := inv_startH S e0 hl r x
  refine wpAny_mono (ht [] s1 (start N vs) H _ I hq) (fun fl s' hs => ?_) fun e s' hs => hs
  have fin : ∀ {σ' : L2.St} {H' : Hp} {v : V} {u : Value}, Inv (cxH P w K mg base N qual scope f cdv A outer s H E) [] σ' H' s' → RelV v u → Q v H' → CE outer P w H s Q u s' :=
    fun {σ' H' v u} J rv q => ⟨v, H', J.os, J.bare, J.base, J.hok, rv, q⟩
  cases fl with
  | ret u =>
    obtain ⟨v, σ', H', J, rv, q⟩ := hs
    exact fin J rv q
  | next =>
    obtain ⟨σ', H', J, q⟩ := hs
    exact fin (v := V.non) (u := Value.none) J rfl q
  | brk =>
    obtain ⟨_, _, _, q⟩ := hs
    exact False.elim q
  | cont =>
    obtain ⟨_, _, _, q⟩ := hs
    exact False.elim q
def HasH (P : Program) (w : World) (K : PySem.W.Frag) (mg : Str → Option Value) (base : Heap) (k : Nat) (x : Str) (ps : List Str) (sp : Sp) : Prop :=
  ∃ (f : Addr) (fd : FuncData), FnOkH P w K mg base k f fd ps sp ∧ PySem.W.keepIn K (.ref f) = true ∧ mg x = some (.ref f) ∧ Binds K fd ps []
theorem Def.okH {P : Program} {w : World} {K : PySem.W.Frag} {mg : Str → Option Value} {base : Heap} {x : Str} {st : Stmt} {N ps : List Str} {k : Nat} {sp : Sp} (D : Def K mg x st ps) (S : FnScope N ps (defScope st)) (len : ∀ vs H Q E, sp vs H Q E → vs.length = ps.length)
    (hbody : ∀ (f : Addr) (cdv : Value) (A : Around) (outer : List Env) (s : Shared) (H : Hp) (vs : List V) (Q : VK) (E : XK), RoomH k (A.deeper (envOfC x (defScope st) s.heap.objs.size f cdv)) → sp vs H Q E →
      ∃ t, PSs (cxH P w K mg base N x (defScope st) f cdv A outer s H E).nox (defBody st) t ∧ t { nx := fun _ H' => Q .non H', rt := Q } (start N vs) H) : HasH P w K mg base (k + 1) x ps sp := by
  obtain ⟨f, fd, F, h1, h2, h3⟩ := D.ex
  obtain ⟨oc, od, kV, doc, pm, an, cdv, ct, osl, rfl, lk, hcd⟩ := F.ex
  refine ⟨f, _, fn_ofH lk hcd S len fun A outer s H vs Q E hr hsp => ?_, h1, h2, h3⟩
  obtain ⟨t, h, q⟩ := hbody f cdv A outer s H vs Q E hr hsp
  exact ⟨t, h.nox, q⟩
section
variable {X : Cx}
theorem pe_hasH {k : Nat} {x : Str} {ps : List Str} {sp : Sp} {E : XK} {e : Expr} {es : List Expr} {t : TA} {p pos : Pos} (F : HasH X.prog X.w X.K X.mg X.base k x ps sp) (hr : RoomH k X.A) (hg : Gl X x) (hx : Passes CX0 X E)
    (ha : PA X (e :: es) t) (hdb : (x == ("__debug__" : Str)) = false := by decide) (he : starEach (e :: es) X.env = (false, eval e X.env) :: starEach es X.env := by rfl) (hpl : (backTo pos (starEach es X.env)).any (·.1) = false := by rfl) :
    PE X (.Call (.Name x p) (e :: es) [] pos) (tHas sp E t) := by
  obtain ⟨f, fd, G, hk, hm, hb⟩ := F
  intro pins s σ H Q I h
  refine wpAny_Call_Name_kw (ld_glob I hg hm ?_ hdb)
  refine PySem.W.callWith_K (h₀ := X.base) I.ok.mod.kin hk (thn (ha pos pins s σ H _ I h) fun us s1 ⟨vs, H1, I1, r, q⟩ => ⟨I1.kIn, ?_⟩) he hpl
  have hl : us.length = ps.length := by rw [← r.length]; exact G.len _ _ _ _ q
  have hbd := hb s1 us I1.kIn (by simpa using hl)
  rw [List.append_nil] at hbd
  refine wpAny_call (codeAny_mono (G.run X.A X.stack s1 H1 ⟨us, []⟩ us vs Q E hr I1.env0 hbd r q) fun r s' hq => ?_)
  cases r with
  | error e => exact hx pins σ H1 s1 e s' I1 hq
  | ok fl =>
    cases fl with
    | ret u => exact I1.after hq
    | next => exact False.elim hq
    | brk => exact False.elim hq
    | cont => exact False.elim hq
end
end Tn
namespace Tn
open PySem L2
def wordV : V → Bool
  | .str x => isW x
  | _ => false
def WV (K : PySem.W.Frag) (H : Hp) (v : V) : Prop := (∃ x : Str, v = .str x ∧ x.length ≤ 10000) ∨ (wordV v = false ∧ ∃ t, TyOf K H v t ∧ PySem.W.kitOne K t (.type "str") = some false)
theorem WV.mono {K : PySem.W.Frag} {H H' : Hp} (s : Same H H') {v : V} : WV K H v → WV K H' v
  | .inl h => .inl h
  | .inr ⟨h, t, h1, h2⟩ => .inr ⟨h, t, Same.ty s h1, h2⟩
def okRV (xs : List V) : Bool := decide (1 ≤ xs.length) && decide (xs.length ≤ 60) && xs.all wordV
theorem okRV_strs (ws : List Str) : okRV (ws.map V.str) = okRow ws := by
  unfold okRV okRow
  rw [List.length_map, List.all_map]
  rfl
theorem split_len_le {x y : Str} (h : y ∈ Txt.split x " ") : y.length ≤ x.length := by
  have e := congrArg (fun z : Str => z.cps.toList) (StrLaws.join_split x " ")
  rw [blank_eq] at e h
  rw [join_jn] at e
  have key : ∀ (ps : List (List Nat)) (p : List Nat), p ∈ ps → p.length ≤ (jn 32 ps).length := fun ps => by
    induction ps with
    | nil => intro p h; cases h
    | cons a r ih =>
      intro p hp
      cases r with
      | nil => rw [List.mem_singleton.mp hp]; exact Nat.le_refl _
      | cons b r =>
        rw [jn, List.length_append, List.length_cons]
        rcases List.mem_cons.mp hp with rfl | hp
        · omega
        · have := ih p hp; omega
  have := key ((Txt.split x ⟨#[32]⟩).map fun z : Str => z.cps.toList) y.cps.toList (List.mem_map.mpr ⟨y, h, rfl⟩)
  rw [e] at this
  simpa [Str.length] using this
def spWordA (K : PySem.W.Frag) : Sp := fun vs H Q _ => ∃ v, vs = [v] ∧ WV K H v ∧ ∀ H', Same H H' → Q (.bl (wordV v)) H'
def spRowA (K : PySem.W.Frag) (C : Addr) : Sp := fun vs H Q E => ∃ (l : Addr) (xs : List V), vs = [.ref l] ∧ SqL K H l xs ∧ xs.length ≤ 1000 ∧ (∀ x ∈ xs, WV K H x) ∧ (okRV xs = true → ∀ H', Same H H' → Q .non H') ∧ (okRV xs = false → ∀ H', Same H H' → E (.ref C) none H')
def spTurnA (C : Addr) : Sp := fun vs H Q E => ∃ (l : Addr) (us : List V) (f : Nat), vs = [.ref l, .int f] ∧ H l = some (.lst us) ∧ us.length ≤ 1000 ∧ (f + 2 ≤ us.length → ∀ (p : Addr) (H' : Hp), H p = none → H' p = some (.lst (us.take f ++ (us.drop f).reverse)) → Same H H' → Q (.ref p) H') ∧ (us.length < f + 2 → ∀ H', Same H H' → E (.ref C) none H')
def spSeeA (C : Addr) : Sp := fun vs H Q E => ∃ (x : Str), vs = [.str x] ∧ x.length ≤ 10000 ∧ (Txt.split x " ").length ≤ 900 ∧ (∀ row, seeT (Txt.split x " ") [] [] = some row → okRow row = true → ∀ (l : Addr) (H' : Hp), H l = none → H' l = some (.lst (row.map V.str)) → Same H H' → Q (.ref l) H') ∧
  ((∀ row, seeT (Txt.split x " ") [] [] = some row → okRow row = false) → ∀ H', Same H H' → E (.ref C) none H')
theorem okRV_words {xs : List V} (h : okRV xs = true) : ∃ ws : List Str, xs = ws.map V.str ∧ okRow ws = true := by
  have hall : ∀ x ∈ xs, wordV x = true := by
    simp only [okRV, Bool.and_eq_true, List.all_eq_true] at h
    exact h.2
  have key : ∀ (l : List V), (∀ x ∈ l, wordV x = true) → ∃ ws : List Str, l = ws.map V.str := fun l => by
    induction l with
    | nil => intro _; exact ⟨[], rfl⟩
    | cons v r ih =>
      intro hl
      obtain ⟨ws, rfl⟩ := ih fun x hx => hl x (.tail _ hx)
      have hv := hl v (.head _)
      cases v with
      | str x => exact ⟨x :: ws, rfl⟩
      | _ => cases hv
  obtain ⟨ws, rfl⟩ := key xs hall
  exact ⟨ws, rfl, by rw [← okRV_strs]; exact h⟩
def spWriteA (K : PySem.W.Frag) (C C2 : Addr) : Sp := fun vs H Q E => ∃ (v : V) (l : Addr) (n : Nest) (xs : List V), vs = [.ref l, v] ∧ NestAt K H n v ∧ SqL K H l xs ∧ xs.length ≤ 1000 ∧ (∀ x ∈ xs, WV K H x) ∧
  (okN n = true → ∀ ws : List Str, xs = ws.map V.str → ws.length = words n → okRow ws = true → ∀ (H' : Hp), Same H H' → Q (.str (Txt.join " " (wrP n ws))) H') ∧
  (okN n = false → ∀ H', Same H H' → E (.ref C) none H') ∧ (okN n = true → (xs.length ≠ words n ∨ okRV xs = false) → ∀ H', Same H H' → E (.ref C2) none H')
def gdT : List Str → List Nat → Bool
  | [], [m] => decide (1 ≤ m) && decide (m ≤ 60)
  | [], _ => false
  | p :: ps, ins => if p = "<" then gdT ps (0 :: ins) else if p = ">" then (match ins with
      | m :: m' :: r => if m < 2 then false else gdT ps ((m' + m) :: r)
      | _ => false) else if isW p = true then (match ins with
      | m :: r => gdT ps ((m + 1) :: r)
      | [] => false) else false
theorem good_seg : ∀ (ps pre : List Str) (ins : List Nat), Opn pre ins → gdT ps ins = true → ∃ w p r, Seg (pre ++ ps) w p r ∧ 1 ≤ w.length ∧ w.length ≤ 60
  | [], pre, ins, o, h => by
    match ins, h with
    | [m], h =>
      rw [gdT] at h
      simp only [Bool.and_eq_true, decide_eq_true_eq] at h
      obtain ⟨w, p, r, hs, hl⟩ := o.done
      exact ⟨w, p, r, by rw [List.append_nil]; exact hs, by omega, by omega⟩
    | [], h => cases h
    | _ :: _ :: _, h => cases h
  | x :: ps, pre, ins, o, h => by
    rw [gdT.eq_def] at h
    dsimp only at h
    have e : pre ++ x :: ps = (pre ++ [x]) ++ ps := by simp
    rw [e]
    obtain ⟨m, r, rfl⟩ := o.ne
    by_cases h1 : x = "<"
    · rw [if_pos h1] at h
      exact good_seg ps _ _ (by rw [h1]; exact o.open') h
    · rw [if_neg h1] at h
      by_cases h2 : x = ">"
      · rw [if_pos h2] at h
        cases r with
        | nil => cases h
        | cons m' r =>
          dsimp only at h
          by_cases h3 : m < 2
          · rw [if_pos h3] at h; cases h
          · rw [if_neg h3] at h
            exact good_seg ps _ _ (by rw [h2]; exact o.close (by omega)) h
      · rw [if_neg h2] at h
        cases h3 : isW x with
        | true =>
          rw [if_pos h3] at h
          exact good_seg ps _ _ (o.word h3) h
        | false =>
          rw [if_neg (by rw [h3]; decide)] at h
          cases h
theorem bad_stay : ∀ (ps row : List Str) (fs : List Nat) (row' : List Str), (∃ x ∈ row, isW x = false) → seeT ps row fs = some row' → okRow row' = false
  | [], row, fs, row', ⟨x, hx, hb⟩, h => by
    rw [seeT.eq_def] at h
    cases fs with
    | cons _ _ => cases h
    | nil =>
      cases h
      cases hk : okRow row with
      | false => rfl
      | true =>
        simp only [okRow, Bool.and_eq_true, List.all_eq_true] at hk
        rw [hk.2 x hx] at hb
        cases hb
  | p :: ps, row, fs, row', hx, h => by
    rw [seeT.eq_def] at h
    dsimp only at h
    by_cases h1 : p = "<"
    · rw [if_pos h1] at h
      exact bad_stay ps row _ row' hx h
    · rw [if_neg h1] at h
      by_cases h2 : p = ">"
      · rw [if_pos h2] at h
        cases fs with
        | nil => cases h
        | cons f fs =>
          dsimp only at h
          by_cases h3 : row.length < f + 2
          · rw [if_pos h3] at h; cases h
          · rw [if_neg h3] at h
            refine bad_stay ps _ _ row' ?_ h
            obtain ⟨x, hx, hb⟩ := hx
            refine ⟨x, ?_, hb⟩
            rw [← List.take_append_drop f row] at hx
            rcases List.mem_append.mp hx with hx | hx
            · exact List.mem_append_left _ hx
            · exact List.mem_append_right _ (List.mem_reverse.mpr hx)
      · rw [if_neg h2] at h
        obtain ⟨x, hx, hb⟩ := hx
        exact bad_stay ps _ _ row' ⟨x, List.mem_append_left _ hx, hb⟩ h
def Rl : List Nat → Nat → List Nat → Prop
  | [m], n, [] => m = n
  | m :: m' :: r, n, f :: fs => f + m = n ∧ Rl (m' :: r) f fs
  | _, _, _ => False
theorem Rl.more {m k : Nat} : ∀ {r : List Nat} {n : Nat} {fs : List Nat}, Rl (m :: r) n fs → Rl ((m + k) :: r) (n + k) fs
  | [], n, [], h => by have h : m = n := h; show m + k = n + k; omega
  | [], _, _ :: _, h => h
  | _ :: _, _, [], h => h
  | _ :: _, n, f :: fs, ⟨h1, h2⟩ => ⟨by omega, h2⟩
theorem bad_see : ∀ (ps row : List Str) (ins fs : List Nat) (row' : List Str), Rl ins row.length fs → gdT ps ins = false → seeT ps row fs = some row' → okRow row' = false
  | [], row, ins, fs, row', hR, hg, h => by
    rw [seeT.eq_def] at h
    cases fs with
    | cons _ _ => cases h
    | nil =>
      cases h
      match ins, hR, hg with
      | [m], hR, hg =>
        have hR : m = row.length := hR
        rw [gdT, hR] at hg
        unfold okRow
        rw [hg]
        rfl
      | [], hR, _ => exact hR.elim
      | _ :: _ :: _, hR, _ => exact hR.elim
  | p :: ps, row, ins, fs, row', hR, hg, h => by
    rw [seeT.eq_def] at h
    rw [gdT.eq_def] at hg
    dsimp only at h hg
    by_cases h1 : p = "<"
    · rw [if_pos h1] at h hg
      refine bad_see ps row (0 :: ins) (row.length :: fs) row' ?_ hg h
      match ins, hR with
      | m :: r, hR => exact ⟨rfl, hR⟩
    · rw [if_neg h1] at h hg
      by_cases h2 : p = ">"
      · rw [if_pos h2] at h hg
        cases fs with
        | nil => cases h
        | cons f fs =>
          match ins, hR, hg with
          | [], hR, _ => exact hR.elim
          | [_], hR, _ => exact hR.elim
          | m :: m' :: r, ⟨hR1, hR2⟩, hg =>
            dsimp only at h hg
            by_cases h3 : row.length < f + 2
            · rw [if_pos h3] at h; cases h
            · rw [if_neg h3] at h
              rw [if_neg (by omega)] at hg
              refine bad_see ps _ _ fs row' ?_ hg h
              have hl : (row.take f ++ (row.drop f).reverse).length = f + m := by
                rw [List.length_append, List.length_take, List.length_reverse, List.length_drop]
                omega
              rw [hl]
              exact hR2.more
      · rw [if_neg h2] at h hg
        cases h3 : isW p with
        | true =>
          rw [if_pos h3] at hg
          match ins, hR, hg with
          | m :: r, hR, hg =>
            refine bad_see ps _ _ fs row' ?_ hg h
            rw [List.length_append]
            exact hR.more (k := 1)
        | false => exact bad_stay ps _ _ row' ⟨p, by simp, h3⟩ h
def spGood (K : PySem.W.Frag) : Sp := fun vs H Q _ => ∃ (a : Addr) (xs : List Str), vs = [.ref a] ∧ SqL K H a (xs.map V.str) ∧ xs.length ≤ 900 ∧ (∀ x ∈ xs, x.length ≤ 10000) ∧ ∀ H', Same H H' → Q (.bl (gdT xs [0])) H'
def spLIsW : Sp := fun vs H Q _ => ∃ x : Str, vs = [.str x] ∧ x.length ≤ 10000 ∧ Q (.bl (isW x)) H
theorem for_str {x : Str} {g : TG} {tb : TS} {D : Ends} {σ : L2.St} {H : Hp} (Pv : Nat → L2.St → Hp → Prop) (h0 : Pv 0 σ H)
    (hs : ∀ i c σ H, x.cps.toList[i]? = some c → Pv i σ H → g (.str ⟨#[c]⟩) σ H fun σ2 H2 => tb { D with nx := Pv (i + 1), ct := Pv (i + 1), bk := D.nx } σ2 H2) (hd : ∀ σ H, Pv x.length σ H → D.nx σ H) :
    ∃ W : Nat → Nat → L2.St → Hp → Prop, (∃ m, W 0 m σ H) ∧ ∀ i m σ H, W i m σ H →
      ((Its x).stop i H ∧ D.nx σ H) ∨ ((Its x).go i H ∧ ∃ N : L2.St → Hp → Prop, (∀ σ' H', N σ' H' → ∃ m', m' < m ∧ W (i + 1) m' σ' H') ∧ ∀ y H', (Its x).yld i H y H' → g y σ H' fun σ2 H2 => tb { D with nx := N, ct := N, bk := D.nx } σ2 H2) := by
  refine ⟨fun i m σ H => m = x.length - i ∧ i ≤ x.length ∧ Pv i σ H, ⟨x.length, by simp, Nat.zero_le _, h0⟩, ?_⟩
  rintro i m σ H ⟨rfl, hi, p⟩
  by_cases hlt : i < x.length
  · refine .inr ⟨hlt, Pv (i + 1), fun σ' H' p' => ⟨x.length - (i + 1), by omega, rfl, hlt, p'⟩, fun y H' z => ?_⟩
    obtain ⟨e, c, hc, rfl⟩ := z
    subst e
    exact hs i c σ _ hc p
  · have e : i = x.length := by omega
    subst e
    exact .inl ⟨rfl, hd σ H p⟩
structure KindOf (K : PySem.W.Frag) (cT cN cO cW cTu cNu cTM cR D : Addr) (b1 b2 : Bool) : Prop where
  tx : ExcTxt K D
  k1 : PySem.W.kitOne K (.ref D) (.ref cT) = some b1
  k2 : PySem.W.kitOne K (.ref D) (.ref cN) = some b2
  ve : PySem.W.kitOne K (.ref D) (.type "ValueError") = some true
  a4 : PySem.W.kitAny K (.ref D) [.ref cO, .ref cW, .ref cTu, .ref cNu] = some false
  a2 : PySem.W.kitAny K (.ref D) [.ref cTM, .ref cR] = some false
def spKinds (K : PySem.W.Frag) (cT cN cO cW cTu cNu cTM cR : Addr) : Sp := fun vs H Q _ => ∃ (x D : Addr) (b1 b2 : Bool), vs = [.ref x] ∧ H x = some (exO x D) ∧ KindOf K cT cN cO cW cTu cNu cTM cR D b1 b2 ∧
  ∀ (p : Addr) (H' : Hp), H p = none → H' p = some (.lst [V.bl b1, V.bl b2, V.bl true, V.bl false, V.bl false]) → Same H H' → Q (.ref p) H'
def spRefT : Sp := fun vs H Q _ => ∃ (x : Str), vs = [.str x] ∧ x.length ≤ 10000 ∧ (Txt.split x " ").length ≤ 900 ∧ (∀ row, seeT (Txt.split x " ") [] [] = some row → okRow row = false) ∧ ∀ H', Same H H' → Q (.bl true) H'
def spUnw (K : PySem.W.Frag) : Sp := fun vs H Q _ => ∃ (v : V) (l : Addr) (n : Nest) (xs : List V) (y : Int), vs = [.ref l, v, .int y] ∧ NestAt K H n v ∧ SqL K H l xs ∧ xs.length ≤ 1000 ∧ (∀ x ∈ xs, WV K H x) ∧ ((y = 0 ∧ okN n = true ∧ (xs.length ≠ words n ∨ okRV xs = false)) ∨ (y = 1 ∧ okN n = false)) ∧ ∀ H', Same H H' → Q (.bl true) H'
def pc9 (xs : List Str) : Prop := ∀ x ∈ xs, x.length ≤ 9 ∧ 32 ∉ x.cps.toList
theorem pc9.sum : ∀ {xs : List Str}, pc9 xs → (xs.map (·.length)).sum ≤ 9 * xs.length
  | [], _ => by simp
  | x :: r, h => by
    have h1 := pc9.sum (xs := r) fun y hy => h y (.tail _ hy)
    have h2 := (h x (.head _)).1
    simp only [List.map_cons, List.sum_cons, List.length_cons]
    omega
theorem pc9.app {a b : List Str} (h1 : pc9 a) (h2 : pc9 b) : pc9 (a ++ b) := fun x hx => (List.mem_append.mp hx).elim (h1 x) (h2 x)
theorem pc9.of {xs : List Str} (h : pcs xs) : pc9 xs := fun x hx => ⟨by
  rcases h x hx with e | e | e
  · rw [e]; decide +kernel
  · rw [e]; decide +kernel
  · have := (isW_len e).2; omega, pcs_free h x hx⟩
theorem pc9.text {xs : List Str} (h : pc9 xs) (hl : xs.length ≤ 320) : (Txt.join " " xs).length ≤ 10000 ∧ (Txt.split (Txt.join " " xs) " ").length ≤ 400 := by
  have h1 := h.sum
  have h2 := jn_len 32 (xs.map (·.cps.toList))
  rw [← txt_jn, ← blank_eq, List.map_map, List.length_map] at h2
  have e : (xs.map ((·.length) ∘ fun x : Str => x.cps.toList)) = xs.map (·.length) := List.map_congr_left fun x _ => by simp [Str.length]
  rw [e] at h2
  have e2 : (Txt.join " " xs).length = (Txt.join " " xs).cps.toList.length := by simp [Str.length]
  refine ⟨by omega, ?_⟩
  by_cases h0 : xs = []
  · subst h0
    have := PyProof.Rows.split_le (Txt.join " " ([] : List Str)) " "
    have e3 : (Txt.join " " ([] : List Str)).length = 0 := rfl
    omega
  · have : Txt.split (Txt.join " " xs) " " = xs := by
      rw [blank_eq]
      exact split_join 32 h0 fun x hx => (h x hx).2
    rw [this]
    omega
theorem pc9.joins {xs : List Str} (h : pc9 xs) (hl : xs.length ≤ 320) : (xs.map (·.length)).sum + xs.length * (" " : Str).length ≤ 16777216 := by
  have h1 := h.sum
  rw [show (" " : Str).length = 1 by decide +kernel]
  omega
theorem at_mod {α : Type} (xs : List α) (i : Int) (h : 0 < xs.length) : ∃ v ∈ xs, atI xs (i % (xs.length : Int)) = some v := by
  have h0 := Int.emod_nonneg i (show (xs.length : Int) ≠ 0 by omega)
  have h1 := Int.emod_lt_of_pos i (show (0 : Int) < (xs.length : Int) by omega)
  have hl : (i % (xs.length : Int)).toNat < xs.length := by omega
  refine ⟨xs[(i % (xs.length : Int)).toNat], List.getElem_mem hl, ?_⟩
  have := atI_nat (List.getElem?_eq_getElem hl)
  rw [show (((i % (xs.length : Int)).toNat : Nat) : Int) = i % (xs.length : Int) by omega] at this
  exact this
def spEither72 : Sp := fun vs H Q _ => ∃ (x : Str), vs = [.str x] ∧ x.length ≤ 10000 ∧ (Txt.split x " ").length ≤ 400 ∧ ∀ H', Same H H' → Q (.bl true) H'
def spStrange : Sp := fun vs H Q _ => ∃ c : Int, vs = [.int c] ∧ ∀ (x : Str) (H' : Hp), x.length ≤ 9 → 32 ∉ x.cps.toList → isW x = false → Same H H' → Q (.str x) H'
def spSpoilt72 (K : PySem.W.Frag) : Sp := fun vs H Q _ => ∃ (a : Addr) (xs : List Str) (c : Int), vs = [.ref a, .int c] ∧ SqL K H a (xs.map V.str) ∧ xs.length ≤ 300 ∧ pc9 xs ∧ ∀ (p : Addr) (ys : List Str) (H' : Hp), H' p = some (.lst (ys.map V.str)) → ys.length ≤ 302 → pc9 ys → Same H H' → Q (.ref p) H'
def spSmall72 : Sp := fun vs H Q _ => ∃ c : Int, vs = [.int c] ∧ ∀ (x : Str) (H' : Hp), x.length ≤ 10000 → (Txt.split x " ").length ≤ 400 → Same H H' → Q (.str x) H'
end Tn
namespace Tn
open PySem L2
theorem jn_cons {c : Nat} {x : List Nat} {r : List (List Nat)} (h : r ≠ []) : jn c (x :: r) = x ++ c :: jn c r := by
  cases r with
  | nil => exact absurd rfl h
  | cons y r => rfl
theorem jn_ahead (c : Nat) (x : List Nat) {L : List (List Nat)} (h : L ≠ []) : ∀ n : Nat, jn c (List.replicate n x ++ L) = (List.replicate n (x ++ [c])).flatten ++ jn c L
  | 0 => by simp
  | n + 1 => by
    rw [List.replicate_succ, List.cons_append, jn_cons (by simp [h]), jn_ahead c x h n, List.replicate_succ, List.flatten_cons]
    simp
theorem jn_snoc (c : Nat) (x : List Nat) : ∀ {L : List (List Nat)}, L ≠ [] → jn c (L ++ [x]) = jn c L ++ c :: x
  | [], h => absurd rfl h
  | [a], _ => rfl
  | a :: b :: r, _ => by
    have := jn_snoc c x (L := b :: r) (by simp)
    show jn c (a :: (b :: r ++ [x])) = jn c (a :: b :: r) ++ c :: x
    rw [jn_cons (x := a) (r := b :: r ++ [x]) (by simp), this, jn_cons (x := a) (r := b :: r) (by simp)]
    simp
theorem jn_behind (c : Nat) (x : List Nat) {L : List (List Nat)} (h : L ≠ []) : ∀ n : Nat, jn c (L ++ List.replicate n x) = jn c L ++ (List.replicate n (c :: x)).flatten
  | 0 => by simp
  | n + 1 => by
    rw [List.replicate_succ', ← List.append_assoc, jn_snoc c x (by simp [h]), jn_behind c x h n, List.replicate_succ']
    simp
def manyP (n : Nat) : List Str := List.replicate n ("<" : Str) ++ [("a" : Str), ("b" : Str)] ++ List.replicate n (">" : Str)
def turn2 (n : Nat) : List Nat := if n % 2 = 0 then [0, 1] else [1, 0]
theorem manyP_seg : ∀ n : Nat, ∃ p, Seg (manyP n) [("a" : Str), ("b" : Str)] p (turn2 n)
  | 0 => ⟨_, (Seg.word (x := "a") (by decide +kernel)).app (Seg.word (x := "b") (by decide +kernel))⟩
  | n + 1 => by
    obtain ⟨p, h⟩ := manyP_seg n
    have := h.pair (Nat.le_refl _)
    have e1 : ("<" : Str) :: (manyP n ++ [(">" : Str)]) = manyP (n + 1) := by
      unfold manyP
      rw [List.replicate_succ, List.replicate_succ' (n := n) (a := (">" : Str))]
      simp
    have e2 : (turn2 n).reverse = turn2 (n + 1) := by
      unfold turn2
      rcases Nat.mod_two_eq_zero_or_one n with h | h
      · rw [if_pos h, if_neg (by omega)]; rfl
      · rw [if_neg (by omega), if_pos (by omega)]; rfl
    rw [e1, e2] at this
    exact ⟨_, this⟩
theorem rep_cps (x : Str) (n : Nat) : (repS x n).cps.toList = (List.replicate n x.cps.toList).flatten := by
  unfold repS
  rw [fold_rep]
  simp
theorem manyP_text (n : Nat) : repS "< " n ++ "a b" ++ repS " >" n = Txt.join " " (manyP n) := by
  apply str_ext
  rw [str_cat, str_cat, rep_cps, rep_cps, blank_eq, txt_jn]
  unfold manyP
  rw [List.map_append, List.map_append, List.map_replicate, List.map_replicate, jn_behind 32 _ (by simp), jn_ahead 32 _ (by simp)]
  have e1 : (Str.ofString "< ").cps.toList = (Str.ofString "<").cps.toList ++ [32] := by decide +kernel
  have e2 : (Str.ofString " >").cps.toList = 32 :: (Str.ofString ">").cps.toList := by decide +kernel
  have e3 : (Str.ofString "a b").cps.toList = jn 32 ([("a" : Str), ("b" : Str)].map fun x : Str => x.cps.toList) := by decide +kernel
  rw [e1, e2, e3]
theorem manyA_seg : ∀ n : Nat, ∃ p r, Seg (List.replicate n ("a" : Str)) (List.replicate n ("a" : Str)) p r
  | 0 => ⟨_, _, .nil⟩
  | n + 1 => by
    obtain ⟨p, r, h⟩ := manyA_seg n
    exact ⟨_, _, (Seg.word (x := "a") (by decide +kernel)).app h⟩
theorem seg_long {a w : List Str} {p : List (Nat × Nat)} {r : List Nat} (h : Seg a w p r) (hw : 60 < w.length) : ∀ row, seeT a [] [] = some row → okRow row = false := fun row e => by
  rw [h.seen] at e
  cases e
  have hl : (rowW w r).length = w.length := by rw [rowW, List.length_map, h.len]
  unfold okRow
  rw [hl, decide_eq_false (by omega : ¬ w.length ≤ 60)]
  simp
theorem markA_text (n : Nat) (h : 1 ≤ n) : Str.ofString "< " ++ Txt.join " " (List.replicate n ("a" : Str)) ++ Str.ofString " >" = Txt.join " " (("<" : Str) :: (List.replicate n ("a" : Str) ++ [(">" : Str)])) := by
  apply str_ext
  have hne : (List.replicate n ("a" : Str)).map (fun x : Str => x.cps.toList) ≠ [] := by
    cases n with
    | zero => omega
    | succ n => simp [List.replicate_succ]
  rw [str_cat, str_cat, blank_eq, txt_jn, txt_jn, List.map_cons, List.map_append, jn_cons (by simp), List.map_cons, List.map_nil, jn_snoc 32 _ hne]
  have e1 : (Str.ofString "< ").cps.toList = (Str.ofString "<").cps.toList ++ [32] := by decide +kernel
  have e2 : (Str.ofString " >").cps.toList = 32 :: (Str.ofString ">").cps.toList := by decide +kernel
  rw [e1, e2]
  simp
theorem rep_len (x : Str) (n : Nat) : (repS x n).length = n * x.length := by
  have h : (repS x n).length = (repS x n).cps.toList.length := by simp [Str.length]
  have h2 : x.cps.toList.length = x.length := by simp [Str.length]
  rw [h, rep_cps, List.length_flatten, List.map_replicate, List.sum_replicate_nat, h2]
theorem manyP_len (n : Nat) : (manyP n).length = 2 * n + 2 := by
  unfold manyP
  simp
  omega
theorem manyP_row (n : Nat) : rowW [("a" : Str), ("b" : Str)] (turn2 n) = if n % 2 = 0 then [("a" : Str), ("b" : Str)] else [("b" : Str), ("a" : Str)] := by
  unfold turn2
  split <;> rfl
theorem repl_flat {α : Type} (x : α) : ∀ n : Nat, (List.replicate n [x]).flatten = List.replicate n x
  | 0 => rfl
  | n + 1 => by rw [List.replicate_succ, List.flatten_cons, repl_flat x n, List.replicate_succ]; rfl
theorem pick_two {j : Int} (h : j = 0 ∨ j = 1) : ∃ c, atI (Str.ofString "+-").cps.toList j = some c ∧ (⟨#[c]⟩ : Str) = kS (decide (j = 0)) := by
  rcases h with rfl | rfl
  · exact ⟨43, by decide +kernel, by decide +kernel⟩
  · exact ⟨45, by decide +kernel, by decide +kernel⟩
def selfV : V → Bool
  | .ref _ => true
  | v => flatV v
theorem eqKs_self : ∀ (xs : List V), (∀ x ∈ xs, selfV x = true) → eqKs xs xs = some true
  | [], _ => rfl
  | x :: r, h => by
    show ((eqK x x).bind fun b => (eqKs r r).map fun c => b && c) = _
    rw [eqKs_self r fun y hy => h y (.tail _ hy)]
    have hx := h x (.head _)
    cases x <;> simp_all [selfV, eqK, flatV, eqV]
theorem flatK (k : Bool) (w0 : Nat) : valid none (.knot k (List.replicate w0 .word)) = true ∧ words (.knot k (List.replicate w0 .word)) = w0 := by
  refine ⟨?_, ?_⟩
  · simp [valid, validL_rep]
  · rw [words, wordsL_rep]
theorem okRV_bad {xs : List V} {x : V} (hx : x ∈ xs) (h : wordV x = false) : okRV xs = false := by
  cases hk : okRV xs with
  | false => rfl
  | true =>
    simp only [okRV, Bool.and_eq_true, List.all_eq_true] at hk
    rw [hk.2 x hx] at h
    cases h
theorem twice_bad (k : Bool) (ps : List Nest) : okN (.knot k [.knot k ps, .word]) = false := by
  unfold okN
  have : valid none (.knot k [.knot k ps, .word]) = false := by
    cases k <;> simp [valid, validL]
  rw [this]
  rfl
end Tn
namespace L2
open PySem PySem.Spec PyProof.Rows
section
variable {X : Cx}
theorem call_minL (hc : X.calm = true) : CallR X (.builtin "min") (fun vs H Q => ∃ (p : Addr) (ns : List Int) (m : Int), vs = [.ref p] ∧ SqL X.K H p (ns.map V.int) ∧ m ∈ ns ∧ (∀ z ∈ ns, m ≤ z) ∧ Q (.int m) H) := by
  intro pins s σ H xs us Q I r h
  obtain ⟨p, ns, m, rfl, hp, hm, hmx, q⟩ := h
  obtain ⟨u, rfl, rx⟩ := vals1 r
  cases rx
  obtain ⟨its, rv, pl, _⟩ := I.list hp
  obtain ⟨zs, rfl, hz⟩ := int_items rv
  have hl : s.heap.IsList p (intItems zs.toArray) := by
    have := pl.isList
    simpa [intItems] using this
  have hlen : zs.length = ns.length := by rw [← hz, List.length_map]
  refine min_intList (I.ok.hd hc) hl (by rw [List.size_toArray, hlen]; exact List.length_pos_of_mem hm) fun v h' tk hv kp => ?_
  obtain ⟨t, rfl⟩ := intItems_at hv
  exact ⟨.int m, H, I.kept kp, ⟨t, by rw [best_min hz hm hmx]⟩, q⟩
end
end L2
namespace L2
open PySem PySem.Spec PyProof PyProof.Rows
section
variable {X : Cx}
def rIndex : V → List V → Hp → VK → Prop := fun x vs H Q => ∃ (l : Addr) (ns : List Int) (z : Int) (j : Nat), x = .ref l ∧ vs = [.int z] ∧ H l = some (.lst (ns.map V.int)) ∧ ns[j]? = some z ∧ (∀ m, m < j → ns[m]? ≠ some z) ∧ ns.length < 1000000 ∧ Q (.int (j : Int)) H
def isZ (z : Int) : Value → Bool
  | .int i _ => decide (i = z)
  | _ => false
theorem mt_index : MtM X "list.index" rIndex := by
  intro pins s σ H x vs v us Q I rx rv h
  obtain ⟨l, ns, z, j, rfl, rfl, hH, hj, hno, hz, q⟩ := h
  cases rx
  obtain ⟨u, rfl, ⟨t, rfl⟩⟩ := vals1 rv
  obtain ⟨zz, its, n, r, hl, e⟩ := I.lstM hH
  have hjl : j < ns.length := (List.getElem?_eq_some_iff.mp hj).1
  rw [List.length_map] at hl
  have it : ∀ (m : Nat) (hm : m < its.length), ∃ tk, its[m] = .int (ns[m]'(by omega)) tk := fun m hm => by
    obtain ⟨w', e1, ⟨tk, rw'⟩⟩ := r.get (i := m) (x := V.int (ns[m]'(by omega))) (by simp)
    exact ⟨tk, by have := (List.getElem?_eq_some_iff.mp e1).2; rw [this]; exact rw'⟩
  have m := SeqAt.list_indexAt l its.toArray n none #[] (.int z t) (isZ z) j (by simp; omega) (by omega) (by
      obtain ⟨tk, hk⟩ := it j (by omega)
      have : its.toArray[j] = its[j] := by simp
      rw [this, hk]
      have := (List.getElem?_eq_some_iff.mp hj).2
      simp [isZ, this]) (fun m hm h => by
      have hml : m < its.length := by simpa using hm
      obtain ⟨tk, hk⟩ := it m hml
      have : its.toArray[m] = its[m] := by simp
      rw [this, hk]
      simp only [isZ, decide_eq_false_iff_not]
      intro y
      exact hno m h (by rw [List.getElem?_eq_getElem (by omega), y]))
  have a2 := F.args_list_index_2 (.ref l) (.int z t)
  refine @call_meets _ _ _ _ _ _ _ _ _ _ _ ?S _ F.slot_list_index ⟨_, e, rfl⟩ F.entry_list_index a2 ?m ?h
  case m => assumption
  refine ⟨e, fun y hy => ?_, ⟨.int j, H, I.kept (t' := s.toks + 1) (fun _ _ e => e), ⟨_, rfl⟩, q⟩⟩
  obtain ⟨m, hm, rfl⟩ := List.getElem_of_mem (by simpa using hy : y ∈ its)
  obtain ⟨tk, hk⟩ := it m hm
  rw [hk]
  have h1 : SeqAt.EqAt X.A.in1 s (Value.int (ns[m]'(by omega)) tk) (Value.int z t) (eqV (V.int (ns[m]'(by omega))) (V.int z)) := eqAt_V ⟨tk, rfl⟩ ⟨t, rfl⟩ rfl rfl
  have h2 : eqV (V.int (ns[m]'(by omega))) (V.int z) = isZ z (.int (ns[m]'(by omega)) tk) := by simp only [eqV, isZ]; rfl
  rw [h2] at h1
  exact h1
end
end L2
namespace K72
open PySem L2 Tn
def top (i : Nat) : Stmt := PySem.Challenge.pw_turnnest_k72_marked_texts_refused.main.body.getD i (.Pass ⟨0, 0, 0, 0⟩)
abbrev s_is_nest : Stmt := top 12
abbrev s_is_knot : Stmt := top 13
abbrev s_must_be_nest : Stmt := top 14
abbrev s_is_of_kind : Stmt := top 15
abbrev s_count_words : Stmt := top 16
abbrev s_shared_out : Stmt := top 17
abbrev s_is_word : Stmt := top 21
abbrev s_must_be_row : Stmt := top 22
abbrev s_seen_words : Stmt := top 23
abbrev s_turned_from : Stmt := top 24
abbrev s_write : Stmt := top 25
abbrev s_marked : Stmt := top 26
abbrev s_law_stir : Stmt := top 28
abbrev s_law_cell : Stmt := top 29
abbrev s_law_word : Stmt := top 30
abbrev s_law_marked : Stmt := top 31
abbrev s_law_turned : Stmt := top 32
abbrev s_law_is_word : Stmt := top 33
abbrev s_law_good : Stmt := top 34
abbrev s_law_kinds : Stmt := top 35
abbrev s_law_refused : Stmt := top 36
abbrev s_law_unwritten : Stmt := top 37
abbrev s_law_either : Stmt := top 38
abbrev s_law_strange : Stmt := top 39
abbrev s_law_spoilt : Stmt := top 40
abbrev s_law_small : Stmt := top 41
abbrev s_law : Stmt := top 42
structure Txt (mg : Str → Option Value) : Prop where
  b : Blt mg
  str : mg "str" = none
  sum : mg "sum" = none
  min : mg "min" = none
  ve : mg "ValueError" = none
  rev : mg "reversed" = none
  zip : mg "zip" = none
  all : mg "all" = none
section
variable {P : Program} {w : World} {K : PySem.W.Frag} {mg : Str → Option Value} {base : Heap}
abbrev sIsNest : Stmt := s_is_nest
abbrev sKnot : Stmt := s_is_knot
abbrev sMust : Stmt := s_must_be_nest
abbrev sStir : Stmt := s_law_stir
abbrev sCell : Stmt := s_law_cell
abbrev sCountW : Stmt := s_count_words
theorem scKnot : FnScope ["thing"] ["thing"] (defScope sKnot) := ⟨rfl, rfl, rfl, by decide +kernel, rfl, by decide +kernel, by decide +kernel⟩
theorem ok_knot {f : Addr} {fd : FuncData} (F : Fun K "is_knot" "is_knot" sKnot f fd) (T : Txt mg) : FnOk P w K mg base CX0 1 f fd ["thing"] (spKnot K) := by
  refine F.ok scKnot (fun vs H Q E h => ?_) (fun cdv A outer s H vs Q E hr h => ?_)
  · obtain ⟨v, rfl, _⟩ := h; rfl
  · obtain ⟨v, rfl, h⟩ := h
    refine ⟨_, (pss_cons (ps_if (pw_or (pt_not (pt_val (pe_callB call_isi (by rfl) T.b.isi boot_isi (pa_cons (pv 0) (pa_cons (pe_bltn (v := .ty "tuple") (by rfl) T.b.tup boot_ty_tuple rfl) pa_nil))))) (pw_or1 (pt_cmpR op_ne (pe_callB call_len_seq (by rfl) T.b.len PySem.boot_len (pa_cons (pv 0) pa_nil)) pe_int (nomark _)))).pt (pss_one (ps_ret pe_bl)) pss_nil)
      (pss_cons (ps_if (pw_or (pt_not (pt_val (pe_callB call_isi (by rfl) T.b.isi boot_isi (pa_cons (pe_ix ix_tup (pv 0) pe_int (fun _ _ => rfl)) (pa_cons (pe_bltn (v := .ty "str") (by rfl) T.str boot_ty_str rfl) pa_nil))))) (pw_or1 (pt_cmpR op_notIn_seq (pe_ix ix_tup (pv 0) pe_int (fun _ _ => rfl)) (pe_tup (pa_cons pe_str (pa_cons pe_str pa_nil))) rfl))).pt (pss_one (ps_ret pe_bl)) pss_nil)
      (pss_one (ps_ret (pe_and (pe_callB call_isi (by rfl) T.b.isi boot_isi (pa_cons (pe_ix ix_tup (pv 0) pe_int (fun _ _ => rfl)) (pa_cons (pe_bltn (v := .ty "tuple") (by rfl) T.b.tup boot_ty_tuple rfl) pa_nil))) (pe_one (pe_cmpR op_ge (pe_callB call_len_seq (by rfl) T.b.len PySem.boot_len (pa_cons (pe_ix ix_tup (pv 0) pe_int (fun _ _ => rfl)) pa_nil)) pe_int (nomark _)))))))), ?_⟩
    rcases h with ⟨h, q⟩ | ⟨a, b, k, us, rfl, e1, e2, h2, hz, q⟩
    · cases h with
      | ty t k => exact ⟨_, rfl, _, _, _, _, rfl, t, k, _, rfl, iteT (iteT (q _ (Same.refl _)))⟩
      | @len a xs e k =>
        refine ⟨_, rfl, _, _, _, _, rfl, .tup e, kit_same _ _, _, rfl, iteF ?_⟩
        refine ⟨_, rfl, a, _, rfl, .inr (SqT.of e), rfl, _, rfl, ?_⟩
        rw [decide_eq_false (by intro z; have z : ((xs.length : Nat) : Int) = 2 := V.int.inj z; omega)]
        exact iteT (q _ (Same.refl _))
      | @notStr a x y t e ty k _ =>
        refine ⟨_, rfl, _, _, _, _, rfl, .tup e, kit_same _ _, _, rfl, iteF ?_⟩
        refine ⟨_, rfl, a, _, rfl, .inr (SqT.of e), rfl, _, rfl, iteF ?_⟩
        exact ⟨_, rfl, a, _, 0, _, rfl, rfl, SqT.of e, rfl, _, _, _, _, rfl, ty, k, _, rfl, iteT (iteT (q _ (Same.refl _)))⟩
      | @kind a z y e n1 n2 _ =>
        refine ⟨_, rfl, _, _, _, _, rfl, .tup e, kit_same _ _, _, rfl, iteF ?_⟩
        refine ⟨_, rfl, a, _, rfl, .inr (SqT.of e), rfl, _, rfl, iteF ?_⟩
        refine ⟨_, rfl, a, _, 0, _, rfl, rfl, SqT.of e, rfl, _, _, _, _, rfl, .str z, kit_same _ _, _, rfl, iteF ?_⟩
        refine ⟨_, rfl, a, _, 0, _, rfl, rfl, SqT.of e, rfl, (by show 2 ≤ sizeLine; decide), fun p hp => ⟨p, _, rfl, .inr (SqT.of upd_same), rfl, rfl, _, rfl, ?_⟩⟩
        rw [kS_notIn n1 n2]
        exact iteT (q _ (same_upd hp))
      | @notTup a k y t e ty kt =>
        refine ⟨_, rfl, _, _, _, _, rfl, .tup e, kit_same _ _, _, rfl, iteF ?_⟩
        refine ⟨_, rfl, a, _, rfl, .inr (SqT.of e), rfl, _, rfl, iteF ?_⟩
        refine ⟨_, rfl, a, _, 0, _, rfl, rfl, SqT.of e, rfl, _, _, _, _, rfl, .str _, kit_same _ _, _, rfl, iteF ?_⟩
        refine ⟨_, rfl, a, _, 0, _, rfl, rfl, SqT.of e, rfl, (by show 2 ≤ sizeLine; decide), fun p hp => ⟨p, _, rfl, .inr (SqT.of upd_same), rfl, rfl, _, rfl, ?_⟩⟩
        rw [kS_in]
        refine iteF ?_
        have e' : (upd H p (.tup [V.str "+", V.str "-"])) a = some (.tup [V.str (kS k), y]) := same_upd hp _ _ e
        exact ⟨_, rfl, a, _, 1, _, rfl, rfl, SqT.of e', rfl, _, _, _, _, rfl, Same.ty (same_upd hp) ty, kt, _, rfl, iteF (q _ (same_upd hp))⟩
      | @few a b k xs e1 e2 hlt =>
        refine ⟨_, rfl, _, _, _, _, rfl, .tup e1, kit_same _ _, _, rfl, iteF ?_⟩
        refine ⟨_, rfl, a, _, rfl, .inr (SqT.of e1), rfl, _, rfl, iteF ?_⟩
        refine ⟨_, rfl, a, _, 0, _, rfl, rfl, SqT.of e1, rfl, _, _, _, _, rfl, .str _, kit_same _ _, _, rfl, iteF ?_⟩
        refine ⟨_, rfl, a, _, 0, _, rfl, rfl, SqT.of e1, rfl, (by show 2 ≤ sizeLine; decide), fun p hp => ⟨p, _, rfl, .inr (SqT.of upd_same), rfl, rfl, _, rfl, ?_⟩⟩
        rw [kS_in]
        refine iteF ?_
        have e1' : (upd H p (.tup [V.str "+", V.str "-"])) a = some (.tup [V.str (kS k), .ref b]) := same_upd hp _ _ e1
        have e2' : (upd H p (.tup [V.str "+", V.str "-"])) b = some (.tup xs) := same_upd hp _ _ e2
        refine ⟨_, rfl, a, _, 1, _, rfl, rfl, SqT.of e1', rfl, _, _, _, _, rfl, .tup e2', kit_same _ _, _, rfl, iteT ?_⟩
        refine ⟨_, rfl, a, _, 1, _, rfl, rfl, SqT.of e1', rfl, b, _, rfl, .inr (SqT.of e2'), _, _, rfl, rfl, ?_⟩
        show Q (V.bl (decide ((2 : Int) ≤ (xs.length : Int)))) _
        rw [decide_eq_false (by omega)]
        exact q _ (same_upd hp)
    · refine ⟨_, rfl, _, _, _, _, rfl, .tup e1, kit_same _ _, _, rfl, iteF ?_⟩
      refine ⟨_, rfl, a, _, rfl, .inr (SqT.of e1), rfl, _, rfl, iteF ?_⟩
      refine ⟨_, rfl, a, _, 0, _, rfl, rfl, SqT.of e1, rfl, _, _, _, _, rfl, .str _, kit_same _ _, _, rfl, iteF ?_⟩
      refine ⟨_, rfl, a, _, 0, _, rfl, rfl, SqT.of e1, rfl, (by show 2 ≤ sizeLine; decide), fun p hp => ⟨p, _, rfl, .inr (SqT.of upd_same), rfl, rfl, _, rfl, ?_⟩⟩
      rw [kS_in]
      refine iteF ?_
      have e1' : (upd H p (.tup [V.str "+", V.str "-"])) a = some (.tup [V.str (kS k), .ref b]) := same_upd hp _ _ e1
      have e2' : (upd H p (.tup [V.str "+", V.str "-"])) b = some (.tup us) := same_upd hp _ _ e2
      refine ⟨_, rfl, a, _, 1, _, rfl, rfl, SqT.of e1', rfl, _, _, _, _, rfl, .tup e2', kit_same _ _, _, rfl, iteT ?_⟩
      refine ⟨_, rfl, a, _, 1, _, rfl, rfl, SqT.of e1', rfl, b, _, rfl, .inr (SqT.of e2'), _, _, rfl, rfl, ?_⟩
      show Q (V.bl (decide ((2 : Int) ≤ (us.length : Int)))) _
      rw [decide_eq_true (by omega)]
      exact q _ (same_upd hp)
def isnComp (s : Stmt) : Scope := match (defBody s).getD 2 (.Pass ⟨0, 0, 0, 0⟩) with
  | .While _ [_, _, .If _ _ [.If _ [.Expr (.Call _ [.ListComp _ _ sc _] _ _) _] _ _] _] _ _ => sc
  | _ => defScope s
abbrev nsIsNest : List Str := ["thing", "words", "waiting", "entry"]
theorem scIsNest : FnScope nsIsNest ["thing"] (defScope sIsNest) := ⟨rfl, rfl, rfl, by decide +kernel, rfl, by decide +kernel, by decide +kernel⟩
theorem csIsNest : CScope (defScope sIsNest) (isnComp sIsNest) "part" ["part", "entry"] nsIsNest [3] := cs_of (by decide +kernel)
theorem ok_isnest {f fK : Addr} {fd fdK : FuncData} {mw : Tok} (F : Fun K "is_nest" "is_nest" sIsNest f fd) (T : Txt mg) (GK : FnOk P w K mg base CX0 1 fK fdK ["thing"] (spKnot K)) (kK : PySem.W.keepIn K (.ref fK) = true) (mK : mg "is_knot" = some (.ref fK)) (bK : Binds K fdK ["thing"] [])
    (mM : mg "MOST_WORDS" = some (.int 60 mw)) : FnOk P w K mg base CX0 2 f fd ["thing"] (spIsNest K) := by
  refine F.ok scIsNest (fun vs H Q E h => ?_) (fun cdv A outer s H vs Q E hr h => ?_)
  · obtain ⟨v, n, rfl, _⟩ := h; rfl
  · obtain ⟨v, n, rfl, hN, q⟩ := h
    refine ⟨_, (pss_cons (ps_set (i := 1) scIsNest.nd rfl (Or.inl rfl) pe_int)
      (pss_cons (ps_set (i := 2) scIsNest.nd rfl (Or.inl rfl) (pe_lst (pa_cons (pe_tup (pa_cons (pv 0) (pa_cons pe_str pa_nil))) pa_nil)))
      (pss_cons (ps_while PassesOwn.never (pt_truth (pv 2) (fun _ => rfl))
        (pss_cons (ps_if (pt_cmpR op_gt (pe_op op_add (pv 1) (pe_callB call_len_seq (by rfl) T.b.len PySem.boot_len (pa_cons (pv 2) pa_nil))) (pe_glob (v := .int 60) (by rfl) mM ⟨mw, rfl⟩) (nomark _)) (pss_one (ps_ret pe_bl)) pss_nil)
      (pss_cons (ps_set (i := 3) scIsNest.nd rfl (Or.inr rfl) (pe_bm0 PySem.F.plainAttrs_list PySem.F.slot_list_pop PySem.F.type_list_pop mt_pop (pv 2)))
      (pss_one (ps_if (pt_cmpR op_isN (pe_ix ix_tup (pv 3) pe_int (fun _ _ => rfl)) pe_non (nomark _)) (pss_one (ps_aug (i := 1) scIsNest.nd rfl (Or.inl rfl) pe_int ip_add))
              (pss_one (ps_if (pw_and (pt_val (pe_call GK hr (by rfl) mK kK bK .nil pass0 (pa_cons (pe_ix ix_tup (pv 3) pe_int (fun _ _ => rfl)) pa_nil))) (pw_and1 (pt_cmpR op_ne (pe_ix ix_tup (pe_ix ix_tup (pv 3) pe_int (fun _ _ => rfl)) pe_int (fun _ _ => rfl)) (pe_ix ix_tup (pv 3) pe_int (fun _ _ => rfl)) (nomark _)))).pt
                (pss_one (ps_expr (pe_bm PySem.F.plainAttrs_list PySem.F.slot_list_extend PySem.F.type_list_extend mt_extend (pv 2) (pa_cons (pe_comp rfl csIsNest rfl (pi_tup (pe_ix ix_tup (pe_ix ix_tup (pv 3) pe_int (fun _ _ => rfl)) pe_int (fun _ _ => rfl))) (fun cl C fp s H => pg_name (i := 0) csIsNest.nd rfl (Or.inl rfl)) (fun cl C fp s H => pts_nil)
                  (fun cl C fp s H => pe_tup (pa_cons (pv 0) (pa_cons (pe_ix (r := rIxT K) ix_tup (pe_ix (r := rIxT K) ix_tup (pv 1) pe_int (fun _ _ => rfl)) pe_int (fun _ _ => rfl)) pa_nil)))) pa_nil))))
                (pss_one (ps_ret pe_bl)))))))))
      (pss_one (ps_ret pe_bl))))), ?_⟩
    refine ⟨_, rfl, (by show 2 ≤ sizeLine; decide), fun t0 ht0 => ⟨(by show 1 ≤ sizeLine; decide), fun wl hwl => ?_⟩⟩
    have hw0 : H wl = none := (same_upd ht0).free hwl
    have sU : ∀ (G : Hp) (o : HO), Same H G → Same H (upd G wl o) := fun G o h b ob e => by rw [upd_ne (ne_of_none e hw0)]; exact h b ob e
    refine ⟨fun m σ H' => ∃ (st : List (Nest × Option Bool)) (ts : List Addr) (wd : Nat) (v3 : Option V), σ = [some v, some (.int (wd : Int)), some (.ref wl), v3] ∧ Same H H' ∧ H' wl = some (.lst (ts.reverse.map V.ref)) ∧ WaitAt K H' st ts ∧ m = waitS st ∧ wd ≤ 60 ∧ okN n = (waitOk st && decide (wd + waitW st ≤ 60)),
      ⟨waitS [(n, none)], [(n, none)], [t0], 0, none, rfl, sU _ _ (same_upd ht0), upd_same, ⟨t0, [], v, rfl, ?_, ?_, rfl⟩, rfl, by decide, ?_⟩, ?_⟩
    · rw [upd_ne (ne_of_none upd_same hwl)]; exact upd_same
    · exact (hN.mono (same_upd ht0)).mono (same_upd hwl)
    · unfold okN waitOk waitW
      simp
    rintro m σ H' ⟨st, ts, wd, v3, rfl, sx, eW, hWt, rfl, hwd, hok⟩
    have hlen := hWt.len
    have hww := hWt.words
    cases st with
    | nil =>
      have e0 : ts = [] := hWt
      subst e0
      refine ⟨_, rfl, false, .inl ⟨_, SqL.of eW, rfl⟩, iteF ?_⟩
      have : okN n = true := by
        rw [hok]
        show (true && decide (wd + 0 ≤ 60)) = true
        simp
        omega
      rw [this] at q
      exact q _ sx
    | cons p r =>
      obtain ⟨t, tr, u, e0, h1, h2, h3⟩ := hWt
      subst e0
      have hrl : (tr.reverse.map V.ref ++ [V.ref t]) = ((t :: tr).reverse.map V.ref) := by simp
      rw [← hrl] at eW
      have hlr := h3.len
      refine ⟨_, rfl, true, .inl ⟨_, SqL.of eW, (by simp)⟩, iteT ?_⟩
      refine ⟨fun σ' Hx => ∃ (st : List (Nest × Option Bool)) (ts : List Addr) (wd : Nat) (v3 : Option V), σ' = [some v, some (.int (wd : Int)), some (.ref wl), v3] ∧ Same H Hx ∧ Hx wl = some (.lst (ts.reverse.map V.ref)) ∧ WaitAt K Hx st ts ∧ waitS st < waitS (p :: r) ∧ wd ≤ 60 ∧ okN n = (waitOk st && decide (wd + waitW st ≤ 60)), ?_, ?_⟩
      · rintro σ' Hx ⟨st, ts, wd', v3', e, a1, a2, a3, a4, a5, a6⟩
        exact ⟨_, a4, st, ts, wd', v3', e, a1, a2, a3, rfl, a5, a6⟩
      have hcount : (tr.reverse.map V.ref ++ [V.ref t]).length = (p :: r).length := by simp; omega
      refine ⟨_, rfl, _, rfl, wl, _, rfl, .inl (SqL.of eW), _, _, rfl, rfl, _, _, rfl, rfl, _, rfl, ?_⟩
      by_cases hbig : 60 < (wd : Int) + ((tr.reverse.map V.ref ++ [V.ref t]).length : Int)
      · rw [decide_eq_true hbig]
        refine iteT ?_
        have : okN n = false := by
          rw [hok]
          have : ¬ (wd + waitW (p :: r) ≤ 60) := by omega
          simp [this]
        rw [this] at q
        exact q _ sx
      rw [decide_eq_false hbig]
      refine iteF ?_
      refine ⟨_, rfl, .inl ⟨rfl, _, SqL.of eW⟩, wl, _, V.ref t, rfl, rfl, eW, (by simp), ?_⟩
      rw [List.dropLast_concat]
      have eW1 : (upd H' wl (.lst (tr.reverse.map V.ref))) wl = some (.lst (tr.reverse.map V.ref)) := upd_same
      have s1 := sU _ (.lst (tr.reverse.map V.ref)) sx
      have h1' : (upd H' wl (.lst (tr.reverse.map V.ref))) t = some (.tup [u, .str (aS p.2)]) := by rw [upd_ne (ne_of h1 eW (by intro z; cases z))]; exact h1
      have h2' := NestAt.updL (vs := tr.reverse.map V.ref) eW h2
      have h3' := WaitAt.updL (vs := tr.reverse.map V.ref) eW h3
      generalize upd H' wl (.lst (tr.reverse.map V.ref)) = H1 at eW1 s1 h1' h2' h3' ⊢
      have hsz : waitS (p :: r) = sizeN p.1 + waitS r := by simp [waitS]
      have hwz : waitW (p :: r) = words p.1 + waitW r := by simp [waitW]
      have hoz : waitOk (p :: r) = (valid p.2 p.1 && waitOk r) := by simp [waitOk]
      rw [hwz, hoz] at hok
      have hsp := size_pos p.1
      simp only [List.length_cons] at hcount
      have hlw := h3'.words
      obtain ⟨pn, po⟩ := p
      cases pn with
      | word =>
        have hu : u = .non := h2'
        subst hu
        refine ⟨_, rfl, t, _, 0, _, rfl, rfl, SqT.of h1', rfl, rfl, _, rfl, iteT ?_⟩
        refine ⟨_, rfl, _, _, rfl, rfl, ?_⟩
        refine ⟨r, tr, wd + 1, _, rfl, s1, eW1, h3', by rw [hsz]; omega, by omega, ?_⟩
        rw [hok]
        have : decide (wd + (words Nest.word + waitW r) ≤ 60) = decide (wd + 1 + waitW r ≤ 60) := by
          have : words Nest.word = 1 := by simp [words]
          rw [this]
          congr 1
          simp only [eq_iff_iff]
          omega
        rw [this]
        simp [valid]
      | bad =>
        obtain ⟨hu, hk⟩ := h2'
        refine ⟨_, rfl, t, _, 0, _, rfl, rfl, SqT.of h1', rfl, rfl, _, rfl, ?_⟩
        rw [decide_eq_false hu]
        refine iteF ⟨_, rfl, t, _, 0, _, rfl, rfl, SqT.of h1', rfl, u, rfl, .inl ⟨hk, fun H2 s2 => ⟨_, rfl, iteF (iteF ?_)⟩⟩⟩
        have : okN n = false := by rw [hok]; simp [valid]
        rw [this] at q
        exact q _ (s1.trans s2)
      | knot k ps =>
        obtain ⟨a, b, us, rfl, ea, eb, hu2, hu3, hps⟩ := h2'
        refine ⟨_, rfl, t, _, 0, _, rfl, rfl, SqT.of h1', rfl, rfl, _, rfl, iteF ?_⟩
        refine ⟨_, rfl, t, _, 0, _, rfl, rfl, SqT.of h1', rfl, _, rfl, .inr ⟨a, b, k, us, rfl, ea, eb, hu2, hu3, fun H2 s2 => ⟨_, rfl, iteT ?_⟩⟩⟩
        have h1'' := s2 _ _ h1'
        have ea' := s2 _ _ ea
        have eb' := s2 _ _ eb
        refine ⟨_, rfl, t, _, 0, _, rfl, rfl, SqT.of h1'', rfl, a, _, 0, _, rfl, rfl, SqT.of ea', rfl, _, rfl, t, _, 1, _, rfl, rfl, SqT.of h1'', rfl, rfl, _, rfl, ?_⟩
        rw [kS_ne]
        by_cases hsame : po = some k
        · rw [decide_eq_true hsame]
          refine iteF ?_
          have : okN n = false := by rw [hok]; simp [valid, hsame]
          rw [this] at q
          exact q _ (s1.trans s2)
        rw [decide_eq_false hsame]
        refine iteT ?_
        have eW2 := s2 _ _ eW1
        have S2 := s1.trans s2
        have hps' := NestsAt.mono s2 hps
        have h3'' := h3'.mono s2
        refine ⟨_, rfl, .inl ⟨rfl, _, SqL.of eW2⟩, _, rfl, t, _, 0, _, rfl, rfl, SqT.of h1'', rfl, a, _, 1, _, rfl, rfl, SqT.of ea', rfl, b, rfl, ⟨_, SqT.of eb'⟩, fun D hD => ?_⟩
        have hpl := hps'.len
        refine comp_inv (n := us.length) (fun i acc Hc => ∃ ts' : List Addr, acc = ts'.map V.ref ∧ ts'.length = i ∧ Hc D = some (.lst acc) ∧ Same H2 Hc ∧ WaitAt K Hc (within k (ps.take i)) ts') ⟨[], rfl, rfl, upd_same, same_upd hD, rfl⟩ ?_ (line1000 hu3) ?_ ?_ ?_
        · rintro i acc Hc ⟨ts', rfl, hl, e, _⟩
          exact ⟨e, by rw [List.length_map, hl]⟩
        · rintro i acc Hc hi ⟨ts', rfl, hl, e, sc, _⟩
          exact ⟨us, us[i], SqT.of (sc _ _ eb'), List.getElem?_eq_getElem hi⟩
        · rintro acc Hc ⟨ts', rfl, hl, e, sc, hw⟩
          refine ⟨⟨us, SqT.of (sc _ _ eb'), Nat.le_refl _⟩, ?_⟩
          rw [← hpl, List.take_length] at hw
          refine ⟨wl, D, _, _, rfl, rfl, sc _ _ eW2, e, line_mil (by simp; omega), ?_⟩
          have eWc := sc _ _ eW2
          refine ⟨(within k ps).reverse ++ r, ts'.reverse ++ tr, wd, _, rfl, sU _ _ (S2.trans sc), ?_, ?_, ?_, hwd, ?_⟩
          · rw [upd_same]
            simp
          · exact WaitAt.updL eWc (WaitAt.app hw.rev (h3''.mono sc))
          · rw [waitS_app, waitS_rev, within_s, hsz]
            simp only [sizeN]
            omega
          · rw [hok, waitW_app, waitW_rev, within_w, waitOk_app, waitOk_rev, within_ok]
            have hv : valid po (Nest.knot k ps) = validL k ps := by simp [valid, hsame]
            have hwk : words (Nest.knot k ps) = wordsL ps := by simp [words]
            show (valid po (Nest.knot k ps) && waitOk r && decide (wd + (words (Nest.knot k ps) + waitW r) ≤ 60)) = _
            rw [hv, hwk]
        · rintro i acc Hc y H5 R hi ⟨ts', rfl, hl, e, sc, hw⟩ ⟨rfl, hy⟩ hR
          have hyi := hy _ (SqT.of (sc _ _ eb'))
          obtain ⟨nn, hnn, hnv⟩ := hps'.get hyi
          refine ⟨_, rfl, _, rfl, t, _, 0, _, rfl, rfl, SqT.of (sc _ _ h1''), rfl, a, _, 0, _, rfl, rfl, SqT.of (sc _ _ ea'), rfl, (by show 2 ≤ sizeLine; decide), fun q1 hq1 => hR _ _ (same_upd hq1 _ _ e) ?_⟩
          refine ⟨ts' ++ [q1], by simp, by simp [hl], upd_same, fun b' o' e' => ?_, ?_⟩
          · rw [upd_ne (ne_of_none e' hD)]
            exact same_upd hq1 _ _ (sc _ _ e')
          · have hcat : within k (ps.take (i + 1)) = within k (ps.take i) ++ [(nn, some k)] := by
              rw [List.take_succ, hnn]
              simp [within]
            rw [hcat]
            refine WaitAt.updL (same_upd hq1 _ _ e) (WaitAt.app (hw.mono (same_upd hq1)) ⟨q1, [], y, rfl, upd_same, ?_, rfl⟩)
            exact (hnv.mono sc).mono (same_upd hq1)
theorem scMust : FnScope ["thing"] ["thing"] (defScope sMust) := ⟨rfl, rfl, rfl, by decide +kernel, rfl, by decide +kernel, by decide +kernel⟩
theorem ok_must {f fN C : Addr} {fd fdN : FuncData} (F : Fun K "must_be_nest" "must_be_nest" sMust f fd) (GN : FnOk P w K mg base CX0 2 fN fdN ["thing"] (spIsNest K)) (kN : PySem.W.keepIn K (.ref fN) = true) (mN : mg "is_nest" = some (.ref fN)) (bN : Binds K fdN ["thing"] [])
    (mC : mg "NoNest" = some (.ref C)) (xC : PySem.W.excIn K C bmVE "ValueError.__new__" = true) : FnOk P w K mg base (CXV P w) 3 f fd ["thing"] (spMust K C) := by
  refine funV F scMust (fun vs H Q E h => ?_) (fun cdv A outer s H vs Q E hr h => ?_)
  · obtain ⟨v, n, rfl, _⟩ := h; rfl
  · obtain ⟨v, n, rfl, hN, q, qE⟩ := h
    refine ⟨_, (pss_one (ps_if (pt_not (pt_val (pe_call GN hr (by rfl) mN kN bN .nil pass0 (pa_cons (pv 0) pa_nil)))) (pss_one (ps_raise throwV rfl (by rfl) mC xC (pa_cons pe_str pa_nil))) pss_nil)), ?_⟩
    refine ⟨_, rfl, v, n, rfl, hN, fun H1 s1 => ⟨_, rfl, ?_⟩⟩
    cases ho : okN n with
    | true => exact iteF (q ho _ s1)
    | false => exact iteT ⟨(by show 1 ≤ sizeLine; decide), qE ho _ s1⟩
theorem has_must {C : Addr} {mw : Tok} (D0 : Def K mg "is_nest" s_is_nest ["thing"]) (D1 : Def K mg "is_knot" s_is_knot ["thing"]) (D2 : Def K mg "must_be_nest" s_must_be_nest ["thing"]) (T : Txt mg) (mM : mg "MOST_WORDS" = some (.int 60 mw)) (mC : mg "NoNest" = some (.ref C)) (xC : PySem.W.excIn K C bmVE "ValueError.__new__" = true) :
    Has P w K mg base (CXV P w) 3 "must_be_nest" ["thing"] (spMust K C) := by
  obtain ⟨f0, fd0, F0, k0, m0, b0⟩ := D0.ex
  obtain ⟨f1, fd1, F1, k1, m1, b1⟩ := D1.ex
  obtain ⟨f2, fd2, F2, k2, m2, b2⟩ := D2.ex
  exact ⟨f2, fd2, ok_must F2 (ok_isnest F0 T (ok_knot F1 T) k1 m1 b1 mM) k0 m0 b0 mC xC, k2, m2, b2⟩
def cwComp (s : Stmt) : Scope := match (defBody s).getD 1 (.Pass ⟨0, 0, 0, 0⟩) with
  | .Return (some (.Call _ [.ListComp _ _ sc _] _ _)) _ => sc
  | _ => defScope s
theorem scCountW : FnScope ["nest"] ["nest"] (defScope sCountW) := ⟨rfl, rfl, rfl, by decide +kernel, rfl, by decide +kernel, by decide +kernel⟩
theorem csCountW : CScope (defScope sCountW) (cwComp sCountW) "part" ["part"] ["nest"] [] := cs_of (by decide +kernel)
theorem ok_countW {f : Addr} {fd : FuncData} (F : Fun K "count_words" "count_words" sCountW f fd) (T : Txt mg) (kS' : PySem.W.keepIn K (.ref f) = true) (mS : mg "count_words" = some (.ref f)) (bS : Binds K fd ["nest"] []) : ∀ d, FnOk P w K mg base CX0 d f fd ["nest"] (spCount K words d)
  | 0 => ⟨fun vs H Q E ⟨_, _, _, _, _, _, h, _⟩ => absurd h (Nat.not_lt_zero _), fun A outer s H args us vs Q E _ _ _ _ ⟨_, _, _, _, _, _, h, _⟩ => absurd h (Nat.not_lt_zero _)⟩
  | d + 1 => by
    have G := ok_countW F T kS' mS bS d
    refine F.ok scCountW (fun vs H Q E h => ?_) (fun cdv A outer s H vs Q E hr h => ?_)
    · obtain ⟨v, n, o, rfl, _⟩ := h; rfl
    · obtain ⟨v, n, o, rfl, hN, hv, hd, q⟩ := h
      refine ⟨_, (pss_cons (ps_if (pt_cmpR op_isN (pv 0) pe_non (nomark _)) (pss_one (ps_ret pe_int)) pss_nil)
      (pss_one (ps_ret (pe_callB (call_sumL rfl) (by rfl) T.sum boot_sum (pa_cons (pe_comp rfl csCountW rfl (pi_tup (pe_ix ix_tup (pv 0) pe_int (fun _ _ => rfl))) (fun cl C fp s H => pg_name (i := 0) csCountW.nd rfl (Or.inl rfl)) (fun cl C fp s H => pts_nil) (fun cl C fp s H => pe_call G hr (by rfl) mS kS' bS .nil pass0 (pa_cons (pv 0) pa_nil))) pa_nil))))), ?_⟩
      cases n with
      | word =>
        have e : v = .non := hN
        subst e
        exact ⟨_, rfl, rfl, _, rfl, iteT (q _ (Same.refl _))⟩
      | bad => exact absurd hv (by simp [valid])
      | knot k ps =>
        obtain ⟨a, b, us, rfl, ea, eb, hu2, hu3, hps⟩ := hN
        have hpl := hps.len
        have hvp : validL k ps = true := by simp only [valid, Bool.and_eq_true] at hv; exact hv.2
        refine ⟨_, rfl, rfl, _, rfl, iteF ?_⟩
        refine ⟨_, rfl, a, _, 1, _, rfl, rfl, SqT.of ea, rfl, b, rfl, ⟨_, SqT.of eb⟩, fun D hD => ?_⟩
        refine comp_inv (n := us.length) (fun i acc Hc => acc = ((ps.take i).map fun n => ((words n : Nat) : Int)).map V.int ∧ Hc D = some (.lst acc) ∧ Same H Hc ∧ i ≤ us.length) ⟨rfl, upd_same, same_upd hD, Nat.zero_le _⟩ ?_ (line1000 hu3) ?_ ?_ ?_
        · rintro i acc Hc ⟨rfl, e, _, hi⟩
          exact ⟨e, by simp; omega⟩
        · rintro i acc Hc hi ⟨rfl, e, sc, _⟩
          exact ⟨us, us[i], SqT.of (sc _ _ eb), List.getElem?_eq_getElem hi⟩
        · rintro acc Hc ⟨rfl, e, sc, _⟩
          refine ⟨⟨us, SqT.of (sc _ _ eb), Nat.le_refl _⟩, ?_⟩
          rw [← hpl, List.take_length] at e
          refine ⟨D, _, rfl, SqL.of e, ?_⟩
          rw [wordsL_sum]
          exact q _ sc
        · rintro i acc Hc y H5 R hi ⟨rfl, e, sc, _⟩ ⟨rfl, hy⟩ hR
          obtain ⟨nn, hnn, hnv⟩ := hps.get (hy _ (SqT.of (sc _ _ eb)))
          have hdn := depthL_get hnn
          simp only [depthN] at hd
          refine ⟨_, rfl, y, nn, some k, rfl, hnv.mono sc, validL_get hvp hnn, by omega, fun H6 s6 => hR _ _ (s6 _ _ e) ⟨?_, upd_same, fun b' o' e' => ?_, hi⟩⟩
          · rw [List.take_succ, hnn, List.map_append, List.map_append]
            rfl
          · rw [upd_ne (ne_of_none e' hD)]
            exact s6 _ _ (sc _ _ e')
theorem has_countw (D : Def K mg "count_words" s_count_words ["nest"]) (T : Txt mg) (d : Nat) : Has P w K mg base CX0 d "count_words" ["nest"] (spCount K words d) := by
  obtain ⟨f, fd, F, k, m, b⟩ := D.ex
  exact ⟨f, fd, ok_countW F T k m b d, k, m, b⟩
abbrev ns_is_of_kind : List Str := ["nest", "kind"]
theorem sc_is_of_kind : FnScope ns_is_of_kind ["nest", "kind"] (defScope s_is_of_kind) := ⟨rfl, rfl, rfl, by decide +kernel, rfl, by decide +kernel, by decide +kernel⟩
theorem ok_ofkind (D : Def K mg "is_of_kind" s_is_of_kind ["nest", "kind"]) : Has P w K mg base CX0 1 "is_of_kind" ["nest", "kind"] (spOfKind K) := by
  refine D.ok sc_is_of_kind (fun vs H Q E h => ?_) (fun f cdv A outer s H vs Q E hr h => ?_)
  · obtain ⟨v, n, o, k, rfl, _⟩ := h; rfl
  · obtain ⟨v, n, o, k, rfl, hN, hv, q⟩ := h
    refine ⟨_, (pss_one (ps_ret (pe_and (pe_cmpR op_notN (pv 0) pe_non (nomark _)) (pe_one (pe_cmpR op_eq (pe_ix ix_tup (pv 0) pe_int (fun _ _ => rfl)) (pv 1) (nomark _)))))), ?_⟩
    cases n with
    | word =>
      have e : v = .non := hN
      subst e
      exact ⟨_, rfl, rfl, _, rfl, iteF q⟩
    | bad => simp [valid] at hv
    | knot k2 ps =>
      obtain ⟨a, b, us, rfl, ea, _⟩ := hN
      refine ⟨_, rfl, rfl, _, rfl, iteT ⟨_, rfl, a, _, 0, _, rfl, rfl, SqT.of ea, rfl, _, rfl, rfl, ?_⟩⟩
      have e : decide (V.str (kS k2) = V.str (kS k)) = ofK k (.knot k2 ps) := by
        show _ = decide (k2 = k)
        cases k <;> cases k2 <;> decide +kernel
      rw [e]
      exact q
abbrev ns_shared_out : List Str := ["nest", "things", "shares", "first", "part", "behind"]
theorem sc_shared_out : FnScope ns_shared_out ["nest", "things"] (defScope s_shared_out) := ⟨rfl, rfl, rfl, by decide +kernel, rfl, by decide +kernel, by decide +kernel⟩
theorem ok_shared (D : Def K mg "shared_out" s_shared_out ["nest", "things"]) (d : Nat) (h_count_words : Has P w K mg base CX0 d "count_words" ["nest"] (spCount K words d)) : Has P w K mg base CX0 (d + 1) "shared_out" ["nest", "things"] (spShared K d) := by
  refine D.ok sc_shared_out (fun vs H Q E h => ?_) (fun f cdv A outer s H vs Q E hr h => ?_)
  · obtain ⟨a, l, k, ps, xs, rfl, _⟩ := h; rfl
  · obtain ⟨a, l, k, ps, xs, rfl, hN, hvp, hd, hl, hz, hw, q⟩ := h
    obtain ⟨a', b, us, e0, ea, eb, hu2, hu3, hps⟩ := hN
    cases e0
    have hpl := hps.len
    refine go_c (ps_set (i := 2) sc_shared_out.nd rfl (Or.inl rfl) (pe_lst pa_nil)) ?_
    intro t0'
    refine go_c (ps_set (i := 3) sc_shared_out.nd rfl (Or.inl rfl) pe_int) ?_
    intro t1'
    refine go_c (ps_for PassesOwn.never rfl (pi_tup (pe_ix ix_tup (pv 0) pe_int (fun _ _ => rfl))) (pg_name (i := 4) sc_shared_out.nd rfl (Or.inl rfl)) (pss_cons (ps_set (i := 5) sc_shared_out.nd rfl (Or.inl rfl) (pe_op op_add (pv 3) (pe_has h_count_words hr (by rfl) pass0 (pa_cons (pv 4) pa_nil))))
      (pss_cons (ps_expr (pe_bm PySem.F.plainAttrs_list PySem.F.slot_list_append PySem.F.type_list_append mt_append (pv 2) (pa_cons (pe_slice sl_list (pv 1) (po_some (pv 3)) (po_some (pv 5))) pa_nil)))
      (pss_one (ps_set (i := 3) sc_shared_out.nd rfl (Or.inl rfl) (pv 5)))))) ?_
    intro t2'
    refine go_1 (ps_ret (pv 2)) ?_
    intro t3'
    refine ⟨(by show 0 ≤ sizeLine; omega), fun sh hsh => ?_⟩
    have s1 := same_upd (o := .lst []) hsh
    have sU : ∀ (G : Hp) (o : HO), Same H G → Same H (upd G sh o) := fun G o h b ob e => by rw [upd_ne (ne_of_none e hsh)]; exact h b ob e
    refine ⟨_, rfl, a, _, 1, _, rfl, rfl, SqT.of (s1 _ _ ea), rfl, b, rfl, ⟨_, SqT.of (s1 _ _ eb)⟩, ?_⟩
    refine for_tup (K := K) (a := b) (xs := us) (fun i σ Hx => ∃ (rs : List Addr) (v4 v5 : Option V), σ = [some (.ref a), some (.ref l), some (.ref sh), some (.int (ahead ps i : Nat)), v4, v5] ∧ Same H Hx ∧ Hx sh = some (.lst (rs.map V.ref)) ∧ VLs Hx rs ((shareL ps xs).take i) ∧ sh ∉ rs ∧ i ≤ us.length)
      ⟨[], none, none, rfl, s1, upd_same, .nil, by simp, Nat.zero_le _⟩ (fun i σ Hx _ ⟨_, _, _, _, sx, _⟩ => SqT.of (sx _ _ eb)) ?_ ?_
    · rintro i y σ Hx hi ⟨rs, v4, v5, rfl, sx, eS, hL, hnr, hiu⟩
      obtain ⟨nn, hnn, hnv⟩ := hps.get hi
      have hil : i < us.length := (List.getElem?_eq_some_iff.mp hi).1
      have hdn := depthL_get hnn
      have hvn := validL_get hvp hnn
      have hrl : rs.length = i := by
        rw [hL.len, List.length_take, shareL_len]
        omega
      refine ⟨_, rfl, _, rfl, y, nn, some k, rfl, hnv.mono sx, hvn, by omega, fun H2 s2 => ⟨_, _, rfl, rfl, ?_⟩⟩
      have s3 := sx.trans s2
      have eS2 := s2 _ _ eS
      refine ⟨_, rfl, .inl ⟨rfl, _, SqL.of eS2⟩, _, rfl, _, rfl, (ahead ps i : Nat), rfl, _, rfl, ((ahead ps i : Nat) + (words nn : Nat) : Int), rfl, l, _, rfl, s3.seq hl, fun np hnp => ?_⟩
      have hcut : cutV xs (some (ahead ps i : Nat)) (some ((ahead ps i : Nat) + (words nn : Nat) : Int)) = (xs.drop (ahead ps i)).take (words nn) := by
        have h1 := ahead_le ps (i + 1)
        rw [ahead_succ hnn] at h1
        unfold cutV
        rw [show ((ahead ps i : Nat) + (words nn : Nat) : Int) = ((ahead ps i + words nn : Nat) : Int) by omega, HT.sIx_nat, HT.sIx_nat]
        rw [Nat.min_eq_left (by omega), Nat.min_eq_left (by omega)]
        congr 1
        omega
      rw [hcut]
      have s4 := same_upd (o := .lst ((xs.drop (ahead ps i)).take (words nn))) hnp
      have enp : (upd H2 np (.lst ((xs.drop (ahead ps i)).take (words nn)))) np = some (.lst ((xs.drop (ahead ps i)).take (words nn))) := upd_same
      generalize upd H2 np (.lst ((xs.drop (ahead ps i)).take (words nn))) = H3 at s4 enp ⊢
      have nsp : np ≠ sh := fun z => by rw [z, eS2] at hnp; cases hnp
      refine ⟨sh, _, _, rfl, rfl, s4 _ _ eS2, small1000 (by rw [List.length_map]; omega), ?_⟩
      refine ⟨_, rfl, ?_⟩
      refine ⟨rs ++ [np], _, _, by rw [ahead_succ hnn]; rfl, sU _ _ (s3.trans s4), by rw [upd_same, List.map_append]; rfl, ?_, ?_, by omega⟩
      · rw [shareL_take hnn]
        exact VLs.app (VLs.upd hnr (hL.mono (s2.trans s4))) (.cons (by rw [upd_ne nsp]; exact enp) .nil)
      · simp only [List.mem_append, List.mem_singleton, not_or]
        exact ⟨hnr, nsp.symm⟩
    · rintro σ Hx ⟨rs, v4, v5, rfl, sx, eS, hL, hnr, hiu⟩
      rw [List.take_of_length_le (by rw [shareL_len]; omega)] at hL
      exact ⟨_, rfl, q sh rs Hx hsh eS hL sx⟩
abbrev ns_is_word : List Str := ["thing"]
theorem sc_is_word : FnScope ns_is_word ["thing"] (defScope s_is_word) := ⟨rfl, rfl, rfl, by decide +kernel, rfl, by decide +kernel, by decide +kernel⟩
def cp_is_word_0 (s : Stmt) : Scope := match (defBody s).getD 1 (.Pass ⟨0, 0, 0, 0⟩) with
  | .Return (some (.Call _ [(.ListComp _ _ sc _)] _ _)) _ => sc
  | _ => defScope s
theorem cs_is_word_0 : CScope (defScope s_is_word) (cp_is_word_0 s_is_word) "sign" ["sign"] ns_is_word [] := cs_of (by decide +kernel)
theorem ok_word (D : Def K mg "is_word" s_is_word ["thing"]) (T : Txt mg) {ww w8 : Tok} (mW : mg "WORD_SIGNS" = some (.str wordSigns ww)) (mS : mg "MOST_SIGNS" = some (.int 8 w8)) : Has P w K mg base CX0 1 "is_word" ["thing"] (spWordA K) := by
  refine D.ok sc_is_word (fun vs H Q E h => ?_) (fun f cdv A outer s H vs Q E hr h => ?_)
  · obtain ⟨x, rfl, _⟩ := h; rfl
  · obtain ⟨v, rfl, hx, q⟩ := h
    refine go_c (ps_if (PW.pt (pw_or (pt_not (pt_val (pe_callB call_isi (by rfl) T.b.isi boot_isi (pa_cons (pv 0) (pa_cons (pe_bltn (v := .ty "str") (by rfl) T.str boot_ty_str rfl) pa_nil))))) (pw_or1 (pt_not (pt_chain op_le op_le pe_int (pe_callB call_len_str (by rfl) T.b.len PySem.boot_len (pa_cons (pv 0) pa_nil)) (pe_glob (v := .int 8) (by rfl) mS ⟨_, rfl⟩)))))) (pss_one (ps_ret pe_bl)) pss_nil) ?_
    intro t0'
    refine go_1 (ps_ret (pe_callB (call_allL rfl) (by rfl) T.all boot_all (pa_cons (pe_comp rfl cs_is_word_0 rfl (pi_str (pv 0)) (fun cl C fp s H => pg_name (i := 0) cs_is_word_0.nd rfl (Or.inl rfl)) (fun cl C fp s H => pts_nil) (fun cl C fp s H => (pe_cmpR op_in_str (pv 0) (pe_glob (v := .str wordSigns) (by rfl) mW ⟨_, rfl⟩) rfl))) pa_nil))) ?_
    intro t1'
    rcases hx with ⟨x, rfl, hx⟩ | ⟨hb, t, ht1, ht2⟩
    · have q : ∀ H', Same H H' → Q (.bl (isW x)) H' := q
      refine ⟨_, rfl, _, _, _, _, rfl, .str _, kit_same _ _, _, rfl, iteF ?_⟩
      refine ⟨_, rfl, x, rfl, line_mil (by omega), _, _, rfl, rfl, _, rfl, ?_⟩
      by_cases h1 : (1 : Int) ≤ (x.length : Int)
      · rw [decide_eq_true h1]
        refine iteT ⟨_, _, rfl, rfl, _, rfl, ?_⟩
        by_cases h2 : (x.length : Int) ≤ 8
        · rw [decide_eq_true h2]
          refine iteF ?_
          refine ⟨_, rfl, x, rfl, fun D hD => ?_⟩
          let bs : List Bool := x.cps.toList.map fun c => decide (c ∈ signs)
          have hbl : bs.length = x.length := by simp [bs, Str.length]
          refine comp_str (fun i => V.bl (bs.getD i true)) (line_mil (by omega)) (fun i c acc R hc hR => ?_) ?_
          · refine ⟨_, rfl, _, _, rfl, rfl, ?_⟩
            rw [StrLaws.found_one]
            have e : decide (c ∈ wordSigns.cps.toList) = bs.getD i true := by simp [bs, List.getD, hc, signs, wordSigns]
            rw [e]
            exact hR
          · have e : (List.range x.length).map (fun i => V.bl (bs.getD i true)) = bs.map V.bl := by
              rw [← hbl]
              exact range_getD bs
            rw [e]
            refine ⟨D, bs, rfl, SqL.of upd_same, ?_⟩
            have e2 : ((List.range bs.length).all fun i => bs.getD i true) = isW x := by
              rw [all_getD]
              unfold isW
              rw [decide_eq_true (by omega : 1 ≤ x.length), decide_eq_true (by omega : x.length ≤ 8)]
              simp [bs, List.all_map]
            rw [e2]
            exact q _ (same_upd hD)
        · rw [decide_eq_false h2]
          refine iteT ?_
          have e : isW x = false := by simp [isW]; intro _ z; omega
          have := q H (Same.refl _)
          rw [e] at this
          exact this
      · rw [decide_eq_false h1]
        refine iteF ⟨_, rfl, iteT ?_⟩
        have e : isW x = false := by simp [isW]; intro z; omega
        have := q H (Same.refl _)
        rw [e] at this
        exact this
    · refine ⟨_, rfl, _, _, _, _, rfl, ht1, ht2, _, rfl, iteT ?_⟩
      have := q H (Same.refl _)
      rw [hb] at this
      exact this
abbrev ns_must_be_row : List Str := ["words"]
theorem sc_must_be_row : FnScope ns_must_be_row ["words"] (defScope s_must_be_row) := ⟨rfl, rfl, rfl, by decide +kernel, rfl, by decide +kernel, by decide +kernel⟩
def cp_must_be_row_0 (s : Stmt) : Scope := match (defBody s).getD 1 (.Pass ⟨0, 0, 0, 0⟩) with
  | .If (.UnaryOp _ (.Call _ [(.ListComp _ _ sc _)] _ _) _) _ _ _ => sc
  | _ => defScope s
theorem cs_must_be_row_0 : CScope (defScope s_must_be_row) (cp_must_be_row_0 s_must_be_row) "word" ["word"] ns_must_be_row [] := cs_of (by decide +kernel)
theorem ok_mustrow {C : Addr} (D : Def K mg "must_be_row" s_must_be_row ["words"]) (T : Txt mg) (h_is_word : Has P w K mg base CX0 1 "is_word" ["thing"] (spWordA K)) {mw : Tok} (mM : mg "MOST_WORDS" = some (.int 60 mw)) (mNoText : mg "NoText" = some (.ref C)) (xNoText : PySem.W.excIn K C bmVE "ValueError.__new__" = true) : Has P w K mg base (CXV P w) 2 "must_be_row" ["words"] (spRowA K C) := by
  refine D.okV sc_must_be_row (fun vs H Q E h => ?_) (fun f cdv A outer s H vs Q E hr h => ?_)
  · obtain ⟨l, xs, rfl, _⟩ := h; rfl
  · obtain ⟨l, xs, rfl, hl, hz, hW, q, qE⟩ := h
    refine go_c (ps_if (pt_not (pt_chain op_le op_le pe_int (pe_callB call_len_seq (by rfl) T.b.len PySem.boot_len (pa_cons (pv 0) pa_nil)) (pe_glob (v := .int 60) (by rfl) mM ⟨mw, rfl⟩))) (pss_one (ps_raise throwV rfl (by rfl) mNoText xNoText (pa_cons pe_str pa_nil))) pss_nil) ?_
    intro t0'
    refine go_1 (ps_if (pt_not (pt_val (pe_callB (call_allL rfl) (by rfl) T.all boot_all (pa_cons (pe_comp rfl cs_must_be_row_0 rfl (pi_list (pv 0)) (fun cl C fp s H => pg_name (i := 0) cs_must_be_row_0.nd rfl (Or.inl rfl)) (fun cl C fp s H => pts_nil) (fun cl C fp s H => (pe_has h_is_word hr (by rfl) pass0 (pa_cons (pv 0) pa_nil)))) pa_nil)))) (pss_one (ps_raise throwV rfl (by rfl) mNoText xNoText (pa_cons pe_str pa_nil))) pss_nil) ?_
    intro t1'
    have hlen : okRV xs = true → 1 ≤ xs.length ∧ xs.length ≤ 60 := fun h => by
      simp only [okRV, Bool.and_eq_true, decide_eq_true_eq] at h
      exact h.1
    refine ⟨_, rfl, l, _, rfl, .inl hl, _, _, rfl, rfl, _, rfl, ?_⟩
    by_cases h1 : (1 : Int) ≤ (xs.length : Int)
    · rw [decide_eq_true h1]
      refine iteT ⟨_, _, rfl, rfl, _, rfl, ?_⟩
      by_cases h2 : (xs.length : Int) ≤ 60
      · rw [decide_eq_true h2]
        refine iteF ?_
        refine ⟨_, rfl, l, rfl, ⟨_, hl⟩, fun D hD => ?_⟩
        refine comp_inv (n := xs.length) (fun i acc Hc => acc = ((xs.take i).map wordV).map V.bl ∧ Hc D = some (.lst acc) ∧ Same H Hc ∧ i ≤ xs.length) ⟨rfl, upd_same, same_upd hD, Nat.zero_le _⟩ ?_ (line1000 hz) ?_ ?_ ?_
        · rintro i acc Hc ⟨rfl, e, _, hi⟩
          exact ⟨e, by simp; omega⟩
        · rintro i acc Hc hi ⟨rfl, e, sc, _⟩
          exact ⟨xs, xs[i], sc.seq hl, List.getElem?_eq_getElem hi⟩
        · rintro acc Hc ⟨rfl, e, sc, _⟩
          rw [List.take_length] at e
          refine ⟨⟨xs, sc.seq hl, Nat.le_refl _⟩, ?_⟩
          refine ⟨D, _, rfl, SqL.of e, ?_⟩
          rw [all_getD]
          refine ⟨_, rfl, ?_⟩
          have hall : (xs.map wordV).all id = okRV xs := by
            unfold okRV
            rw [decide_eq_true (by omega : 1 ≤ xs.length), decide_eq_true (by omega : xs.length ≤ 60), List.all_map]
            rfl
          rw [hall]
          cases ho : okRV xs with
          | true => exact iteF (q ho _ sc)
          | false => exact iteT ⟨(by show 1 ≤ sizeLine; decide), qE ho _ sc⟩
        · rintro i acc Hc y H5 R hi ⟨rfl, e, sc, _⟩ ⟨rfl, hy⟩ hR
          have hy' := hy _ (sc.seq hl)
          rw [List.getElem?_eq_getElem hi] at hy'
          cases hy'
          refine ⟨_, rfl, xs[i], rfl, (hW _ (List.getElem_mem hi)).mono sc, fun H6 s6 => ?_⟩
          refine hR _ _ (s6 _ _ e) ⟨?_, upd_same, fun b' o' e' => ?_, hi⟩
          · rw [List.take_succ, List.getElem?_eq_getElem hi, List.map_append, List.map_append]
            rfl
          · rw [upd_ne (ne_of_none e' hD)]
            exact s6 _ _ (sc _ _ e')
      · rw [decide_eq_false h2]
        refine iteT ?_
        have ho : okRV xs = false := by
          cases h : okRV xs with
          | false => rfl
          | true => have := hlen h; omega
        exact ⟨(by show 1 ≤ sizeLine; decide), qE ho _ (Same.refl _)⟩
    · rw [decide_eq_false h1]
      refine iteF ⟨_, rfl, iteT ?_⟩
      have ho : okRV xs = false := by
        cases h : okRV xs with
        | false => rfl
        | true => have := hlen h; omega
      exact ⟨(by show 1 ≤ sizeLine; decide), qE ho _ (Same.refl _)⟩
abbrev ns_turned_from : List Str := ["row", "first"]
theorem sc_turned_from : FnScope ns_turned_from ["row", "first"] (defScope s_turned_from) := ⟨rfl, rfl, rfl, by decide +kernel, rfl, by decide +kernel, by decide +kernel⟩
theorem ok_turnedf {C : Addr} (D : Def K mg "turned_from" s_turned_from ["row", "first"]) (T : Txt mg) (mNoText : mg "NoText" = some (.ref C)) (xNoText : PySem.W.excIn K C bmVE "ValueError.__new__" = true) : Has P w K mg base (CXV P w) 1 "turned_from" ["row", "first"] (spTurnA C) := by
  refine D.okV sc_turned_from (fun vs H Q E h => ?_) (fun f cdv A outer s H vs Q E hr h => ?_)
  · obtain ⟨l, us, k, rfl, _⟩ := h; rfl
  · obtain ⟨l, us, k, rfl, el, hl, q, qE⟩ := h
    refine go_c (ps_if (pt_cmpR op_lt (pe_callB call_len_seq (by rfl) T.b.len PySem.boot_len (pa_cons (pv 0) pa_nil)) (pe_op op_add (pv 1) pe_int) (nomark _)) (pss_one (ps_raise throwV rfl (by rfl) mNoText xNoText (pa_cons pe_str pa_nil))) pss_nil) ?_
    intro t0'
    refine go_1 (ps_ret (pe_op op_cat (pe_slice sl_list (pv 0) po_none (po_some (pv 1))) (pe_lstRevL rfl rfl T.b.lst T.rev rfl (pa_cons (pe_slice sl_list (pv 0) (po_some (pv 1)) po_none) pa_nil)))) ?_
    intro t1'
    refine ⟨_, rfl, l, _, rfl, .inl (SqL.of el), _, rfl, _, _, rfl, rfl, _, _, rfl, rfl, _, rfl, ?_⟩
    by_cases hk : k + 2 ≤ us.length
    case neg =>
      rw [decide_eq_true (by omega)]
      exact iteT ⟨(by show 1 ≤ sizeLine; decide), qE (by omega) _ (Same.refl _)⟩
    have q := q hk
    rw [decide_eq_false (by omega)]
    refine iteF ?_
    refine ⟨_, rfl, _, rfl, (k : Int), rfl, l, _, rfl, SqL.of el, fun p1 h1 => ?_⟩
    rw [cutV_head us k (by omega)]
    have s1 := same_upd (o := .lst (us.take k)) h1
    refine ⟨_, rfl, _, rfl, (k : Int), rfl, l, _, rfl, SqL.of (s1 _ _ el), fun p2 h2 => ?_⟩
    rw [cutV_tail us k (by omega)]
    have s2 := same_upd (o := .lst (us.drop k)) h2
    refine ⟨p2, _, rfl, SqL.of upd_same, fun p3 h3 => ?_⟩
    have s3 := same_upd (o := .lst (us.drop k).reverse) h3
    refine ⟨p1, p3, _, _, rfl, rfl, s3 _ _ (s2 _ _ upd_same), upd_same, line1000 (by simp; omega), fun p4 h4 => ?_⟩
    have s4 := same_upd (o := .lst (us.take k ++ (us.drop k).reverse)) h4
    have S3 := s1.trans (s2.trans s3)
    exact q p4 _ (S3.free h4) upd_same (S3.trans s4)
abbrev ns_seen_words : List Str := ["text", "row", "firsts", "piece"]
theorem sc_seen_words : FnScope ns_seen_words ["text"] (defScope s_seen_words) := ⟨rfl, rfl, rfl, by decide +kernel, rfl, by decide +kernel, by decide +kernel⟩
theorem ok_seenw {C : Addr} (D : Def K mg "seen_words" s_seen_words ["text"]) (T : Txt mg) (h_turned_from : Has P w K mg base (CXV P w) 1 "turned_from" ["row", "first"] (spTurnA C)) (h_must_be_row : Has P w K mg base (CXV P w) 2 "must_be_row" ["words"] (spRowA K C)) (mNoText : mg "NoText" = some (.ref C)) (xNoText : PySem.W.excIn K C bmVE "ValueError.__new__" = true) : Has P w K mg base (CXV P w) 3 "seen_words" ["text"] (spSeeA C) := by
  refine D.okV sc_seen_words (fun vs H Q E h => ?_) (fun f cdv A outer s H vs Q E hr h => ?_)
  · obtain ⟨x, rfl, _⟩ := h; rfl
  · obtain ⟨x, rfl, hx, hsl, q, qE⟩ := h
    refine go_c (ps_set (i := 1) sc_seen_words.nd rfl (Or.inl rfl) (pe_lst pa_nil)) ?_
    intro t0'
    refine go_c (ps_set (i := 2) sc_seen_words.nd rfl (Or.inl rfl) (pe_lst pa_nil)) ?_
    intro t1'
    refine go_c (ps_for PassesOwn.leaving rfl (pi_list (pe_bm PySem.F.plainAttrs_str PySem.F.slot_str_split PySem.F.type_str_split mt_split (pv 0) (pa_cons pe_str pa_nil))) (pg_name (i := 3) sc_seen_words.nd rfl (Or.inl rfl)) (pss_one (ps_if (pt_cmpR op_eq (pv 3) pe_str (nomark _)) (pss_one (ps_expr (pe_bm PySem.F.plainAttrs_list PySem.F.slot_list_append PySem.F.type_list_append mt_append (pv 2) (pa_cons (pe_callB call_len_seq (by rfl) T.b.len PySem.boot_len (pa_cons (pv 1) pa_nil)) pa_nil)))) (pss_one (ps_if (pt_cmpR op_eq (pv 3) pe_str (nomark _)) (pss_cons (ps_if (pt_not (pt_truth (pv 2) (fun _ => rfl))) (pss_one (ps_raise throwV rfl (by rfl) mNoText xNoText (pa_cons pe_str pa_nil))) pss_nil)
      (pss_one (ps_set (i := 1) sc_seen_words.nd rfl (Or.inl rfl) (pe_has h_turned_from (hr.mono (by first | decide | omega)) (by rfl) passV (pa_cons (pv 1) (pa_cons (pe_bm0 PySem.F.plainAttrs_list PySem.F.slot_list_pop PySem.F.type_list_pop mt_pop (pv 2)) pa_nil)))))) (pss_one (ps_expr (pe_bm PySem.F.plainAttrs_list PySem.F.slot_list_append PySem.F.type_list_append mt_append (pv 1) (pa_cons (pv 3) pa_nil))))))))) ?_
    intro t2'
    refine go_c (ps_if (pt_truth (pv 2) (fun _ => rfl)) (pss_one (ps_raise throwV rfl (by rfl) mNoText xNoText (pa_cons pe_str pa_nil))) pss_nil) ?_
    intro t3'
    refine go_c (ps_expr (pe_has h_must_be_row hr (by rfl) passV (pa_cons (pv 1) pa_nil))) ?_
    intro t4'
    refine go_1 (ps_ret (pv 1)) ?_
    intro t5'
    refine ⟨(by show 0 ≤ sizeLine; omega), fun r0 hr0 => ?_⟩
    have s1 := same_upd (o := .lst []) hr0
    have er0 : (upd H r0 (.lst [])) r0 = some (.lst (([] : List Str).map V.str)) := upd_same
    generalize upd H r0 (.lst []) = H1 at s1 er0 ⊢
    refine gname_go ?_
    refine ⟨(by show 0 ≤ sizeLine; omega), fun fl hfl => ?_⟩
    have s2 := same_upd (o := .lst []) hfl
    have efl : (upd H1 fl (.lst [])) fl = some (.lst (([] : List Nat).reverse.map fun (n : Nat) => V.int n)) := upd_same
    have er1 := s2 _ _ er0
    have nfl : H fl = none := s1.free hfl
    generalize upd H1 fl (.lst []) = H2 at s2 efl er1 ⊢
    refine gname_go ?_
    dsimp only [List.set]
    refine ⟨_, rfl, rfl, x, " ", rfl, rfl, (by decide +kernel), (by show x.length + 2 ≤ sizeLine; exact line_mil (by omega)), fun pl hpl => ?_⟩
    have hlp : ∀ y ∈ Txt.split x " ", y.length ≤ 10000 := fun y hy => Nat.le_trans (split_len_le hy) hx
    generalize Txt.split x " " = ps at hsl hlp q qE ⊢
    have s3 := same_upd (o := .lst (ps.map V.str)) hpl
    have epl : (upd H2 pl (.lst (ps.map V.str))) pl = some (.lst (ps.map V.str)) := upd_same
    have er := s3 _ _ er1
    have ef := s3 _ _ efl
    have S3 := s1.trans (s2.trans s3)
    have npl : H pl = none := (s1.trans s2).free hpl
    have nrf : r0 ≠ fl := ne_of_none er0 hfl
    have nrp : r0 ≠ pl := ne_of_none er1 hpl
    have nfp : fl ≠ pl := ne_of_none efl hpl
    generalize upd H2 pl (.lst (ps.map V.str)) = H3 at s3 epl er ef S3 ⊢
    refine ⟨pl, rfl, ⟨_, SqL.of epl⟩, ?_⟩
    refine for_list (K := K) (a := pl) (xs := ps.map V.str) (fun i σ Hx => ∃ (rl : Addr) (row : List Str) (fs : List Nat) (v3 : Option V), σ = [some (.str x), some (.ref rl), some (.ref fl), v3] ∧ Same H Hx ∧ H rl = none ∧ rl ≠ fl ∧ rl ≠ pl ∧ Hx rl = some (.lst (row.map V.str)) ∧ Hx fl = some (.lst (fs.reverse.map fun (n : Nat) => V.int n)) ∧ Hx pl = some (.lst (ps.map V.str)) ∧ seeT (ps.drop i) row fs = seeT ps [] [] ∧ row.length ≤ i ∧ fs.length ≤ i ∧ ∀ y ∈ row, y.length ≤ 10000)
      ⟨r0, [], [], none, rfl, S3, hr0, nrf, nrp, er, ef, epl, rfl, Nat.le_refl _, Nat.le_refl _, fun y hy => by cases hy⟩ (fun i σ Hx _ ⟨_, _, _, _, _, _, _, _, _, _, _, ep, _⟩ => SqL.of ep) ?_ ?_
    · rintro i y σ Hx hi ⟨rl, row, fs, v3, rfl, sx, nrl, n1, n2, eR, eF, eP, hT, hri, hfi, hrl⟩
      rw [List.getElem?_map] at hi
      obtain ⟨p, hp, rfl⟩ := Option.map_eq_some_iff.mp hi
      obtain ⟨hil, hpe⟩ := List.getElem?_eq_some_iff.mp hp
      rw [List.drop_eq_getElem_cons hil, hpe, seeT.eq_def] at hT
      dsimp only at hT
      have U : ∀ (a : Addr) (o : HO), H a = none → Same H (upd Hx a o) := fun a o ha b ob e => by rw [upd_ne (ne_of_none e ha)]; exact sx b ob e
      refine gname_go ?_
      dsimp only [List.set]
      refine ⟨_, rfl, rfl, _, rfl, ?_⟩
      by_cases h1 : p = "<"
      · rw [decide_eq_true (show V.str p = V.str "<" by rw [h1])]
        rw [if_pos h1] at hT
        refine iteT ⟨_, rfl, .inl ⟨rfl, _, SqL.of eF⟩, _, rfl, rl, _, rfl, .inl (SqL.of eR), fl, _, _, rfl, rfl, eF, small1000 (by simp; omega), ?_⟩
        refine ⟨rl, row, row.length :: fs, _, rfl, U _ _ nfl, nrl, n1, n2, ?_, ?_, ?_, hT, by omega, by simp; omega, hrl⟩
        · rw [upd_ne n1]; exact eR
        · rw [upd_same, List.reverse_cons, List.map_append, List.length_map]; rfl
        · rw [upd_ne nfp.symm]; exact eP
      · rw [decide_eq_false (show ¬ V.str p = V.str "<" from fun z => h1 (V.str.inj z))]
        rw [if_neg h1] at hT
        refine iteF ⟨_, rfl, rfl, _, rfl, ?_⟩
        by_cases h2 : p = ">"
        · rw [decide_eq_true (show V.str p = V.str ">" by rw [h2])]
          rw [if_pos h2] at hT
          refine iteT ?_
          cases fs with
          | nil =>
            refine ⟨_, rfl, false, .inl ⟨_, SqL.of eF, by simp⟩, iteT ⟨(by show 1 ≤ sizeLine; decide), qE (fun row e => ?_) _ sx⟩⟩
            rw [← hT] at e
            cases e
          | cons k fs =>
            dsimp only at hT
            have eF' : Hx fl = some (.lst ((fs.reverse.map fun (n : Nat) => V.int n) ++ [V.int k])) := by rw [eF, List.reverse_cons, List.map_append]; rfl
            refine ⟨_, rfl, true, .inl ⟨_, SqL.of eF', by simp⟩, iteF ?_⟩
            have U2 : Same H (upd Hx fl (.lst (fs.reverse.map fun (n : Nat) => V.int n))) := U _ _ nfl
            refine ⟨_, rfl, _, rfl, .inl ⟨rfl, _, SqL.of eF'⟩, fl, _, V.int k, rfl, rfl, eF', by simp, ?_⟩
            rw [List.dropLast_concat]
            have eR2 : (upd Hx fl (.lst (fs.reverse.map fun (n : Nat) => V.int n))) rl = some (.lst (row.map V.str)) := by rw [upd_ne n1]; exact eR
            have eP2 : (upd Hx fl (.lst (fs.reverse.map fun (n : Nat) => V.int n))) pl = some (.lst (ps.map V.str)) := by rw [upd_ne nfp.symm]; exact eP
            have eF2 : (upd Hx fl (.lst (fs.reverse.map fun (n : Nat) => V.int n))) fl = some (.lst (fs.reverse.map fun (n : Nat) => V.int n)) := upd_same
            generalize upd Hx fl (.lst (fs.reverse.map fun (n : Nat) => V.int n)) = H4 at U2 eR2 eP2 eF2 ⊢
            refine ⟨rl, _, k, rfl, eR2, by rw [List.length_map]; omega, fun hk p1 H5 np1 ep1 s5 => ?_, fun hk H5 s5 => qE (fun row' e => ?_) _ (U2.trans s5)⟩
            case refine_2 =>
              rw [List.length_map] at hk
              rw [if_pos hk] at hT
              rw [← hT] at e
              cases e
            rw [List.length_map] at hk
            rw [if_neg (by omega)] at hT
            rw [← List.map_take, ← List.map_drop, ← List.map_reverse, ← List.map_append] at ep1
            refine gname_go ?_
            dsimp only [List.set]
            refine ⟨p1, _, fs, _, rfl, U2.trans s5, U2.free np1, (ne_of_none eF2 np1).symm, (ne_of_none eP2 np1).symm, ep1, s5 _ _ eF2, s5 _ _ eP2, hT, by simp; omega, by simp at hfi; omega, fun y hy => hrl y ?_⟩
            rcases List.mem_append.mp hy with h | h
            · exact List.mem_of_mem_take h
            · exact List.mem_of_mem_drop (List.mem_reverse.mp h)
        · rw [decide_eq_false (show ¬ V.str p = V.str ">" from fun z => h2 (V.str.inj z))]
          rw [if_neg h2] at hT
          refine iteF ?_
          refine ⟨_, rfl, .inl ⟨rfl, _, SqL.of eR⟩, _, rfl, rl, _, _, rfl, rfl, eR, small1000 (by rw [List.length_map]; omega), ?_⟩
          refine ⟨rl, row ++ [p], fs, _, rfl, U _ _ nrl, nrl, n1, n2, ?_, ?_, ?_, hT, by simp; omega, by omega, fun y hy => ?_⟩
          · rw [upd_same, List.map_append]; rfl
          · rw [upd_ne n1.symm]; exact eF
          · rw [upd_ne n2.symm]; exact eP
          · rcases List.mem_append.mp hy with h | h
            · exact hrl y h
            · rw [List.mem_singleton.mp h, ← hpe]; exact hlp _ (List.getElem_mem hil)
    · rintro σ Hx ⟨rl, row, fs, v3, rfl, sx, nrl, n1, n2, eR, eF, eP, hT, hri, hfi, hrl⟩
      rw [List.length_map, List.drop_length] at hT
      cases fs with
      | cons k fs =>
        rw [seeT.eq_def] at hT
        refine ⟨_, rfl, true, .inl ⟨_, SqL.of eF, by simp⟩, iteT ⟨(by show 1 ≤ sizeLine; decide), qE (fun row' e => ?_) _ sx⟩⟩
        rw [← hT] at e
        cases e
      | nil =>
        rw [seeT.eq_def] at hT
        dsimp only at hT
        refine ⟨_, rfl, false, .inl ⟨_, SqL.of eF, by simp⟩, iteF ?_⟩
        rw [List.length_map] at hri
        refine ⟨_, rfl, rl, _, rfl, SqL.of eR, by rw [List.length_map]; omega, fun v hv => ?_, fun ho H5 s5 => ?_, fun ho H5 s5 => qE (fun row' e => ?_) _ (sx.trans s5)⟩
        · obtain ⟨y, hy, rfl⟩ := List.mem_map.mp hv
          exact .inl ⟨y, rfl, hrl y hy⟩
        · rw [okRV_strs] at ho
          exact ⟨_, rfl, q row hT.symm ho rl _ nrl (s5 _ _ eR) (sx.trans s5)⟩
        · rw [okRV_strs] at ho
          rw [← hT] at e
          cases e
          exact ho
abbrev ns_marked : List Str := ["nest", "words", "pieces", "part", "share"]
theorem sc_marked : FnScope ns_marked ["nest", "words"] (defScope s_marked) := ⟨rfl, rfl, rfl, by decide +kernel, rfl, by decide +kernel, by decide +kernel⟩
theorem ok_marked (D : Def K mg "marked" s_marked ["nest", "words"]) (T : Txt mg) (h_count : ∀ d, Has P w K mg base CX0 d "count_words" ["nest"] (spCount K words d)) (DS : Def K mg "shared_out" s_shared_out ["nest", "things"]) : ∀ d, Has P w K mg base CX0 (d + 2) "marked" ["nest", "words"] (spMarked K d)
  | 0 => D.rec0 fun vs H Q E ⟨_, _, _, _, _, _, _, _, h, _⟩ => absurd h (Nat.not_lt_zero _)
  | d + 1 => by
    have h_marked := ok_marked D T h_count DS d
    have h_shared_out := ok_shared (P := P) (w := w) (base := base) DS (d + 1) (h_count (d + 1))
    refine D.ok sc_marked (fun vs H Q E h => ?_) (fun f cdv A outer s H vs Q E hr h => ?_)
    · obtain ⟨v, l, n, o, ws, rfl, _⟩ := h; rfl
    · obtain ⟨v, l, n, o, ws, rfl, hN, hv, hd, hw, hl, hbl, hW, q⟩ := h
      refine go_c (ps_if (pt_cmpR op_isN (pv 0) pe_non (nomark _)) (pss_one (ps_ret (pe_lst (pa_cons (pe_ix ix_list (pv 1) pe_int (fun _ _ => rfl)) pa_nil)))) pss_nil) ?_
      intro t0'
      refine go_c (ps_set (i := 2) sc_marked.nd rfl (Or.inl rfl) (pe_lst (pa_cons pe_str pa_nil))) ?_
      intro t1'
      refine go_c (ps_for PassesOwn.never rfl (pi_zipTL rfl T.zip (pa_cons (pe_ix ix_tup (pv 0) pe_int (fun _ _ => rfl)) (pa_cons (pe_has h_shared_out hr (by rfl) pass0 (pa_cons (pv 0) (pa_cons (pv 1) pa_nil))) pa_nil))) (pg_tup rfl (pgs_cons (pg_name (i := 3) sc_marked.nd rfl (Or.inl rfl)) (pgs_cons (pg_name (i := 4) sc_marked.nd rfl (Or.inl rfl)) pgs_nil))) (pss_one (ps_expr (pe_bm PySem.F.plainAttrs_list PySem.F.slot_list_extend PySem.F.type_list_extend mt_extend (pv 2) (pa_cons (pe_has h_marked hr (by rfl) pass0 (pa_cons (pv 3) (pa_cons (pv 4) pa_nil))) pa_nil))))) ?_
      intro t2'
      refine go_1 (ps_ret (pe_op op_cat (pv 2) (pe_lst (pa_cons pe_str pa_nil)))) ?_
      intro t3'
      cases n with
      | bad => simp [valid] at hv
      | word =>
        have e : v = .non := hN
        subst e
        rw [words] at hbl
        match ws, hbl with
        | [x], _ =>
          exact ⟨_, rfl, rfl, _, rfl, iteT ⟨_, rfl, l, _, 0, _, rfl, rfl, hl, rfl, (by show 1 ≤ sizeLine; decide), fun p hp => q p _ hp upd_same (same_upd hp)⟩⟩
      | knot k ps =>
        have hN' := hN
        have hfit := NestAt.fit hN hv
        simp only [fit, Bool.and_eq_true, decide_eq_true_eq] at hfit
        obtain ⟨a, b, us, rfl, ea, eb, hu2, hu3, hps⟩ := hN
        have hpl := hps.len
        have hvp : validL k ps = true := by simp only [valid, Bool.and_eq_true] at hv; exact hv.2
        simp only [depthN] at hd
        rw [words] at hw hbl
        refine ⟨_, rfl, rfl, _, rfl, iteF ⟨(by show 1 ≤ sizeLine; decide), fun pp hpp => ?_⟩⟩
        have s1 := same_upd (o := .lst [V.str "<"]) hpp
        have sU : ∀ (G : Hp) (o : HO), Same H G → Same H (upd G pp o) := fun G o h b ob e => by rw [upd_ne (ne_of_none e hpp)]; exact h b ob e
        have ep1 : (upd H pp (.lst [V.str "<"])) pp = some (.lst [V.str "<"]) := upd_same
        generalize upd H pp (.lst [V.str "<"]) = H1 at s1 ep1 ⊢
        refine gname_go ?_
        dsimp only [List.set]
        refine ⟨_, rfl, a, _, 1, _, rfl, rfl, SqT.of (s1 _ _ ea), rfl, _, rfl, _, rfl, a, l, k, ps, ws.map V.str, rfl, hN'.mono s1, hvp, by omega, s1.seq hl, by rw [List.length_map]; omega, by rw [List.length_map]; omega, fun sh rs H2 nsh esh hsh s2 => ?_⟩
        have hrl : rs.length = us.length := by rw [hsh.len, shareL_len, hpl]
        have nshp : sh ≠ pp := fun z => by rw [z, ep1] at nsh; cases nsh
        have nrs : pp ∉ rs := fun hm => by
          obtain ⟨j, hj, e⟩ := List.getElem_of_mem hm
          obtain ⟨ys, hys, ey⟩ := hsh.get (i := j) (p := pp) (by rw [List.getElem?_eq_getElem hj, e])
          rw [s2 _ _ ep1] at ey
          have hjn : j < ps.length := by omega
          rw [shareL_get (List.getElem?_eq_getElem hjn), ← List.map_drop, ← List.map_take] at hys
          have hys := Option.some.inj hys
          have h0 := HO.lst.inj (Option.some.inj ey)
          rw [← hys] at h0
          have hm2 : V.str "<" ∈ ((ws.drop (ahead ps j)).take (words ps[j])).map V.str := by rw [← h0]; exact .head _
          obtain ⟨x, hx, ex⟩ := List.mem_map.mp hm2
          exact isW_lt (hW x (List.mem_of_mem_drop (List.mem_of_mem_take hx))) (V.str.inj ex)
        refine ⟨b, sh, us, rs.map V.ref, rfl, (s1.trans s2) _ _ eb, esh, ?_⟩
        refine for_zipL (a := b) (b := sh) (xs := us) (ys := rs.map V.ref) (by rw [List.length_map]; omega) (fun i σ Hx => ∃ (v3 v4 : Option V), σ = [some (.ref a), some (.ref l), some (.ref pp), v3, v4] ∧ Same H Hx ∧ Hx sh = some (.lst (rs.map V.ref)) ∧ VLs Hx rs (shareL ps (ws.map V.str)) ∧ Hx pp = some (.lst ((("<" : Str) :: mkPL (ps.take i) ws).map V.str)) ∧ i ≤ us.length)
          ⟨none, none, rfl, s1.trans s2, esh, hsh, s2 _ _ ep1, Nat.zero_le _⟩ (fun i σ Hx _ ⟨_, _, _, sx, e1, _⟩ => ⟨sx _ _ eb, e1⟩) ?_ ?_
        · rintro i x y σ Hx tp hx hy ⟨v3, v4, rfl, sx, eS, hL, eP, hiu⟩ htp
          obtain ⟨r, hr', rfl⟩ := refs_get hy
          obtain ⟨nn, hnn, hnv⟩ := hps.get hx
          obtain ⟨xs, hxs, er⟩ := hL.get hr'
          have hil : i < us.length := (List.getElem?_eq_some_iff.mp hx).1
          have hdn := depthL_get hnn
          have hvn := validL_get hvp hnn
          have hwn := wordsL_at hnn
          have hah := ahead_le ps (i + 1)
          have hml := mkPL_len ws (fitL_take (i + 1) hfit.2)
          rw [ahead_succ hnn] at hah
          rw [show wordsL (ps.take (i + 1)) = ahead ps (i + 1) from rfl, ahead_succ hnn, mkPL_take hnn, List.length_append] at hml
          rw [shareL_get hnn] at hxs
          have hxs : (List.drop (ahead ps i) (ws.map V.str)).take (words nn) = xs := by simpa using hxs
          rw [← List.map_drop, ← List.map_take] at hxs
          subst hxs
          have st := same_upd (o := .tup [x, .ref r]) htp
          have er1 := st _ _ er
          have eP1 := st _ _ eP
          refine ⟨tp, _, rfl, SqT.of upd_same, rfl, _, _, rfl, _, _, rfl, rfl, ?_⟩
          generalize upd Hx tp (.tup [x, .ref r]) = H3 at st er1 eP1 ⊢
          have S3 := sx.trans st
          refine ⟨_, rfl, .inl ⟨rfl, _, SqL.of eP1⟩, _, rfl, _, rfl, x, r, nn, some k, (ws.drop (ahead ps i)).take (words nn), rfl, hnv.mono S3, hvn, by omega, by omega, SqL.of er1, (by rw [List.length_take, List.length_drop]; omega), (fun z hz => hW z (List.mem_of_mem_drop (List.mem_of_mem_take hz))), fun p H4 np ep s4 => ?_⟩
          have eP4 := s4 _ _ eP1
          refine ⟨pp, p, _, _, rfl, rfl, eP4, ep, line_mil (by simp only [List.length_map, List.length_cons]; omega), ?_⟩
          have S4 := S3.trans s4
          refine ⟨_, _, rfl, sU _ _ S4, by rw [upd_ne nshp]; exact (st.trans s4) _ _ eS, VLs.upd nrs ((hL.mono st).mono s4), ?_, by omega⟩
          rw [upd_same, mkPL_take hnn, ← List.map_append]
          rfl
        · rintro σ Hx ⟨v3, v4, rfl, sx, eS, hL, eP, hiu⟩
          rw [← hpl, List.take_length] at eP
          have hml := mkPL_len ws hfit.2
          refine ⟨_, rfl, (by show 1 ≤ sizeLine; decide), fun p1 hp1 => ?_⟩
          have s5 := same_upd (o := .lst [V.str ">"]) hp1
          refine ⟨pp, p1, _, _, rfl, rfl, s5 _ _ eP, upd_same, line1000 (by simp; omega), fun p2 hp2 => ?_⟩
          refine q p2 _ ((sx.trans s5).free hp2) ?_ (sx.trans (s5.trans (same_upd hp2)))
          rw [upd_same, mkP]
          simp
abbrev ns_write : List Str := ["words", "nest", "pieces"]
theorem sc_write : FnScope ns_write ["words", "nest"] (defScope s_write) := ⟨rfl, rfl, rfl, by decide +kernel, rfl, by decide +kernel, by decide +kernel⟩
theorem ok_write {C C2 : Addr} (D : Def K mg "write" s_write ["words", "nest"]) (T : Txt mg) (h_must_be_nest : Has P w K mg base (CXV P w) 3 "must_be_nest" ["thing"] (spMust K C)) (h_count_words : Has P w K mg base CX0 60 "count_words" ["nest"] (spCount K words 60)) (h_must_be_row : Has P w K mg base (CXV P w) 2 "must_be_row" ["words"] (spRowA K C2)) (h_marked : Has P w K mg base CX0 62 "marked" ["nest", "words"] (spMarked K 60)) (h_is_of_kind : Has P w K mg base CX0 1 "is_of_kind" ["nest", "kind"] (spOfKind K)) (mNoText : mg "NoText" = some (.ref C2)) (xNoText : PySem.W.excIn K C2 bmVE "ValueError.__new__" = true) :
    Has P w K mg base (CXV P w) 63 "write" ["words", "nest"] (spWriteA K C C2) := by
  refine D.okV sc_write (fun vs H Q E h => ?_) (fun f cdv A outer s H vs Q E hr h => ?_)
  · obtain ⟨v, l, n, xs, rfl, _⟩ := h; rfl
  · obtain ⟨v, l, n, xs, rfl, hN, hl, hz, hWV, q, qE, qE2⟩ := h
    refine go_c (ps_expr (pe_has h_must_be_nest (hr.mono (by first | decide | omega)) (by rfl) passV (pa_cons (pv 1) pa_nil))) ?_
    intro t0'
    refine go_c (ps_if (pt_cmpR op_ne (pe_callB call_len_seq (by rfl) T.b.len PySem.boot_len (pa_cons (pv 0) pa_nil)) (pe_has h_count_words (hr.mono (by first | decide | omega)) (by rfl) pass0 (pa_cons (pv 1) pa_nil)) (nomark _)) (pss_one (ps_raise throwV rfl (by rfl) mNoText xNoText (pa_cons pe_str pa_nil))) pss_nil) ?_
    intro t1'
    refine go_c (ps_expr (pe_has h_must_be_row (hr.mono (by first | decide | omega)) (by rfl) passV (pa_cons (pv 0) pa_nil))) ?_
    intro t2'
    refine go_c (ps_set (i := 2) sc_write.nd rfl (Or.inl rfl) (pe_has h_marked hr (by rfl) pass0 (pa_cons (pv 1) (pa_cons (pv 0) pa_nil)))) ?_
    intro t3'
    refine go_c (ps_if (pt_val (pe_has h_is_of_kind (hr.mono (by first | decide | omega)) (by rfl) pass0 (pa_cons (pv 1) (pa_cons pe_str pa_nil)))) (pss_one (ps_set (i := 2) sc_write.nd rfl (Or.inl rfl) (pe_slice sl_list (pv 2) (po_some pe_int) (po_some (pe_un un_neg pe_int))))) pss_nil) ?_
    intro t4'
    refine go_1 (ps_ret (pe_bm PySem.F.plainAttrs_str PySem.F.slot_str_join PySem.F.type_str_join mt_join pe_str (pa_cons (pv 2) pa_nil))) ?_
    intro t5'
    refine ⟨_, rfl, v, n, rfl, hN, fun ho H1 s1 => ?_, qE⟩
    obtain ⟨h1, h2⟩ := okN_valid ho
    have h3 := depth_words hN
    have hfit := NestAt.fit hN h1
    have hw1 := words_pos hN
    refine ⟨_, rfl, l, _, rfl, .inl (s1.seq hl), _, rfl, v, n, none, rfl, hN.mono s1, h1, by omega, fun H2 s2 => ?_⟩
    have S2 := s1.trans s2
    refine ⟨rfl, _, rfl, ?_⟩
    by_cases hlen : xs.length = words n
    case neg =>
      rw [show (!decide (V.int (xs.length : Int) = V.int ((words n : Nat) : Int))) = true by
        rw [decide_eq_false fun z => hlen (by have := V.int.inj z; omega)]; rfl]
      exact iteT ⟨(by show 1 ≤ sizeLine; decide), qE2 ho (.inl hlen) _ S2⟩
    rw [show (!decide (V.int (xs.length : Int) = V.int ((words n : Nat) : Int))) = false by rw [hlen]; simp]
    refine iteF ?_
    refine ⟨_, rfl, l, xs, rfl, S2.seq hl, hz, fun x hx => (hWV x hx).mono S2, fun hrv H3 s3 => ?_, fun hrv H3 s3 => qE2 ho (.inr hrv) _ (S2.trans s3)⟩
    obtain ⟨ws, rfl, hrow⟩ := okRV_words hrv
    rw [List.length_map] at hlen
    have hwl := hlen
    have hW : ∀ x ∈ ws, isW x = true := by
      have := hrow
      simp only [okRow, Bool.and_eq_true, List.all_eq_true] at this
      exact this.2
    have q := q ho ws rfl hlen hrow
    have S3 := S2.trans s3
    refine ⟨_, rfl, _, rfl, v, l, n, none, ws, rfl, hN.mono S3, h1, by omega, h2, S3.seq hl, hwl, hW, fun p H4 np ep s4 => ?_⟩
    have S4 := S3.trans s4
    refine gname_go ?_
    dsimp only [List.set]
    refine seq_if (fun σ' Hx => ∃ p', σ' = [some (.ref l), some v, some (.ref p')] ∧ Hx p' = some (.lst ((wrP n ws).map V.str)) ∧ Same H Hx) ?_ fun hrest => ?_
    · rintro σ' Hx ⟨p', rfl, e, sx⟩
      obtain ⟨_, _, hseg, _⟩ := seg_wr h1 hfit hwl hW
      have hps := pcs_len hseg.pieces
      have hpl := wrP_len ws hfit
      refine ⟨rfl, _, rfl, " ", p', wrP n ws, rfl, rfl, SqL.of e, ?_, q _ sx⟩
      rw [show (" " : Str).length = 1 by decide +kernel]
      omega
    · refine ⟨_, rfl, v, n, none, true, rfl, hN.mono S4, h1, _, rfl, ?_⟩
      cases hk : ofK true n with
      | false => exact iteF (hrest _ _ ⟨p, rfl, by rw [wrP_no ws hk]; exact ep, S4⟩)
      | true =>
        obtain ⟨ps, rfl⟩ : ∃ ps, n = .knot true ps := by
          cases n with
          | word => cases hk
          | bad => cases hk
          | knot k ps => exact ⟨ps, by rw [of_decide_eq_true hk]⟩
        refine iteT ⟨_, rfl, 1, rfl, _, rfl, _, rfl, p, _, rfl, SqL.of ep, fun p2 hp2 => ?_⟩
        refine gname_go ?_
        dsimp only [List.set]
        refine hrest _ _ ⟨p2, rfl, ?_, S4.trans (same_upd hp2)⟩
        rw [upd_same, mkP, List.map_cons, List.map_append]
        exact congrArg (fun z => some (HO.lst z)) (cut_in _ _ _)
abbrev ns_law_word : List Str := ["cell", "some", "word", "left", "k"]
theorem sc_law_word : FnScope ns_law_word ["cell"] (defScope s_law_word) := ⟨rfl, rfl, rfl, by decide +kernel, rfl, by decide +kernel, by decide +kernel⟩
theorem ok_lword (D : Def K mg "_law_word" s_law_word ["cell"]) (T : Txt mg) : Has P w K mg base CX0 1 "_law_word" ["cell"] spWord71 := by
  refine D.ok sc_law_word (fun vs H Q E h => ?_) (fun f cdv A outer s H vs Q E hr h => ?_)
  · obtain ⟨c, rfl, _⟩ := h; rfl
  · obtain ⟨c, rfl, q⟩ := h
    refine go_c (ps_set (i := 1) sc_law_word.nd rfl (Or.inl rfl) pe_str) ?_
    intro t0'
    refine go_c (ps_set (i := 2) sc_law_word.nd rfl (Or.inl rfl) pe_str) ?_
    intro t1'
    refine go_c (ps_set (i := 3) sc_law_word.nd rfl (Or.inl rfl) (pe_op op_fdiv (pv 0) pe_int)) ?_
    intro t2'
    refine go_c (ps_for PassesOwn.never rfl (pi_range1 rfl T.b.rng (pa_cons (pe_op op_add pe_int (pe_op op_mod (pv 0) pe_int)) pa_nil)) (pg_name (i := 4) sc_law_word.nd rfl (Or.inl rfl)) (pss_cons (ps_set (i := 2) sc_law_word.nd rfl (Or.inl rfl) (pe_op op_add_str (pv 2) (pe_ix ix_str (pv 1) (pe_op op_mod (pv 3) pe_int) (fun _ _ => rfl))))
      (pss_one (ps_set (i := 3) sc_law_word.nd rfl (Or.inl rfl) (pe_op op_fdiv (pv 3) pe_int))))) ?_
    intro t3'
    refine go_1 (ps_ret (pv 2)) ?_
    intro t4'
    dsimp only [tSeq, t0', tAsg, tC]
    refine gname_go ?_
    dsimp only [tSeq, t1', tAsg, tC]
    refine gname_go ?_
    refine ⟨_, rfl, _, _, rfl, rfl, ⟨by decide, by decide⟩, ?_⟩
    refine gname_go ?_
    dsimp only [List.set]
    have m0 := Int.emod_nonneg c (show (8 : Int) ≠ 0 by decide)
    have m1 := Int.emod_lt_of_pos c (show (0 : Int) < 8 by decide)
    obtain ⟨n, hn⟩ : ∃ n : Nat, 1 + c % 8 = (n : Int) := ⟨(1 + c % 8).toNat, by omega⟩
    refine ⟨_, rfl, _, _, rfl, rfl, (by show (0 : Int) < 8; decide), _, _, rfl, rfl, (n : Int), (by show [V.int (1 + c % 8)] = _; rw [hn]), by omega, by omega, ?_⟩
    rw [show ((n : Nat) : Int).toNat = n by omega]
    refine for_range (n := n) (lo := 0) (fun i σ Hx => ∃ (y : Str) (l : Int) (v3 : Option V), σ = [some (.int c), some (.str wordSigns), some (.str y), some (.int l), v3] ∧ Hx = H ∧ y.length = i ∧ ∀ z ∈ y.cps.toList, z ∈ signs) ⟨Str.ofString "", _, none, rfl, rfl, by decide, by intro z hz; exact absurd hz (by decide +revert)⟩ ?_ ?_
    · rintro i σ Hx hi ⟨y, l, v3, rfl, rfl, hy, hys⟩
      refine gname_go ?_
      dsimp only [List.set]
      obtain ⟨ch, hch, hcs⟩ := sign_at (j := l % 36) (Int.emod_nonneg l (by decide)) (Int.emod_lt_of_pos l (by decide))
      refine ⟨_, rfl, _, rfl, _, rfl, _, _, rfl, rfl, (by show (0 : Int) < 36; decide), _, _, ch, rfl, rfl, (by decide +kernel), hch, _, _, rfl, rfl, line1000 (by show y.length + 1 ≤ 1000; omega), ?_⟩
      refine gname_go ?_
      dsimp only [List.set]
      refine ⟨_, rfl, _, _, rfl, rfl, ⟨by decide, by decide⟩, ?_⟩
      refine ⟨_, _, _, rfl, rfl, by rw [str_len, hy]; rfl, fun z hz => ?_⟩
      rw [str_cat] at hz
      rcases List.mem_append.mp hz with hz | hz
      · exact hys z hz
      · have : z = ch := by simpa using hz
        rw [this]; exact hcs
    · rintro σ Hx ⟨y, l, v3, rfl, rfl, hy, hys⟩
      refine ⟨_, rfl, q y ?_⟩
      simp only [isW, Bool.and_eq_true, decide_eq_true_eq, List.all_eq_true]
      exact ⟨⟨by omega, by omega⟩, hys⟩
abbrev ns_law_marked : List Str := ["script", "first", "many", "parts", "inside", "cell", "gone"]
theorem sc_law_marked : FnScope ns_law_marked ["script", "first", "many"] (defScope s_law_marked) := ⟨rfl, rfl, rfl, by decide +kernel, rfl, by decide +kernel, by decide +kernel⟩
def cp_law_marked_0 (s : Stmt) : Scope := match (defBody s).getD 2 (.Pass ⟨0, 0, 0, 0⟩) with
  | .For _ _ [(.If _ _ [(.If _ _ [(.If (.Compare (.Call _ [(.ListComp _ _ sc _)] _ _) _ _ _) _ _ _)] _)] _)] _ _ => sc
  | _ => defScope s
theorem cs_law_marked_0 : CScope (defScope s_law_marked) (cp_law_marked_0 s_law_marked) "part" ["part"] ns_law_marked [] := cs_of (by decide +kernel)
theorem ok_lmarked (D : Def K mg "_law_marked" s_law_marked ["script", "first", "many"]) (T : Txt mg) (h_law_word : Has P w K mg base CX0 1 "_law_word" ["cell"] spWord71) : Has P w K mg base CX0 2 "_law_marked" ["script", "first", "many"] (spLMarked K) := by
  refine D.ok sc_law_marked (fun vs H Q E h => ?_) (fun f cdv A outer s H vs Q E hr h => ?_)
  · obtain ⟨a, ns, rfl, _⟩ := h; rfl
  · obtain ⟨a, ns, rfl, hS, hl, q⟩ := h
    refine go_c (ps_set (i := 3) sc_law_marked.nd rfl (Or.inl rfl) (pe_lst pa_nil)) ?_
    intro t0'
    refine go_c (ps_set (i := 4) sc_law_marked.nd rfl (Or.inl rfl) (pe_lst (pa_cons pe_int pa_nil))) ?_
    intro t1'
    refine go_c (ps_for PassesOwn.never rfl (pi_list (pe_slice sl_list (pv 0) (po_some (pv 1)) (po_some (pe_op op_add (pv 1) (pv 2))))) (pg_name (i := 5) sc_law_marked.nd rfl (Or.inl rfl)) (pss_one (ps_if (pt_cmpR op_eq (pe_op op_mod (pv 5) pe_int) pe_int (nomark _)) (pss_cons (ps_expr (pe_bm PySem.F.plainAttrs_list PySem.F.slot_list_append PySem.F.type_list_append mt_append (pv 3) (pa_cons pe_str pa_nil)))
      (pss_one (ps_expr (pe_bm PySem.F.plainAttrs_list PySem.F.slot_list_append PySem.F.type_list_append mt_append (pv 4) (pa_cons pe_int pa_nil))))) (pss_one (ps_if (PW.pt (pw_and (pt_cmpR op_eq (pe_op op_mod (pv 5) pe_int) pe_int (nomark _)) (pw_and (pt_cmpR op_gt (pe_callB call_len_seq (by rfl) T.b.len PySem.boot_len (pa_cons (pv 4) pa_nil)) pe_int (nomark _)) (pw_and1 (pt_cmpR op_gt (pe_ix ix_list (pv 4) (pe_un un_neg pe_int) (fun _ _ => rfl)) pe_int (nomark _)))))) (pss_cons (ps_expr (pe_bm PySem.F.plainAttrs_list PySem.F.slot_list_append PySem.F.type_list_append mt_append (pv 3) (pa_cons pe_str pa_nil)))
      (pss_cons (ps_set (i := 6) sc_law_marked.nd rfl (Or.inl rfl) (pe_bm0 PySem.F.plainAttrs_list PySem.F.slot_list_pop PySem.F.type_list_pop mt_pop (pv 4)))
      (pss_one (ps_asg (pe_op op_add (pe_ix ix_list (pv 4) (pe_un un_neg pe_int) (fun _ _ => rfl)) (pv 6)) (pg_sub (pv 4) (pe_un un_neg pe_int) set_list))))) (pss_one (ps_if (pt_cmpR op_lt (pe_callB call_len_seq (by rfl) T.b.len PySem.boot_len (pa_cons (pe_comp rfl cs_law_marked_0 rfl (pi_list (pv 3)) (fun cl C fp s H => pg_name (i := 0) cs_law_marked_0.nd rfl (Or.inl rfl)) (fun cl C fp s H => pts_one (pt_cmpR op_notin_str (pv 0) pe_str rfl)) (fun cl C fp s H => (pv 0))) pa_nil)) (pe_op op_sub pe_int (pe_op op_mulW pe_int (pe_callB call_len_seq (by rfl) T.b.len PySem.boot_len (pa_cons (pv 4) pa_nil)))) (nomark _)) (pss_cons (ps_expr (pe_bm PySem.F.plainAttrs_list PySem.F.slot_list_append PySem.F.type_list_append mt_append (pv 3) (pa_cons (pe_has h_law_word hr (by rfl) pass0 (pa_cons (pe_op op_fdiv (pv 5) pe_int) pa_nil)) pa_nil)))
      (pss_one (ps_asg (pe_op op_add (pe_ix ix_list (pv 4) (pe_un un_neg pe_int) (fun _ _ => rfl)) pe_int) (pg_sub (pv 4) (pe_un un_neg pe_int) set_list)))) pss_nil))))))) ?_
    intro t2'
    refine go_c (ps_while PassesOwn.never (PW.pt (pw_or (pt_cmpR op_gt (pe_callB call_len_seq (by rfl) T.b.len PySem.boot_len (pa_cons (pv 4) pa_nil)) pe_int (nomark _)) (pw_or1 (pt_cmpR op_eq (pe_ix ix_list (pv 4) pe_int (fun _ _ => rfl)) pe_int (nomark _))))) (pss_cons (ps_if (pt_cmpR op_lt (pe_ix ix_list (pv 4) (pe_un un_neg pe_int) (fun _ _ => rfl)) pe_int (nomark _)) (pss_cons (ps_expr (pe_bm PySem.F.plainAttrs_list PySem.F.slot_list_append PySem.F.type_list_append mt_append (pv 3) (pa_cons (pe_has h_law_word hr (by rfl) pass0 (pa_cons (pe_callB call_len_seq (by rfl) T.b.len PySem.boot_len (pa_cons (pv 3) pa_nil)) pa_nil)) pa_nil)))
      (pss_one (ps_asg (pe_op op_add (pe_ix ix_list (pv 4) (pe_un un_neg pe_int) (fun _ _ => rfl)) pe_int) (pg_sub (pv 4) (pe_un un_neg pe_int) set_list)))) pss_nil)
      (pss_one (ps_if (PW.pt (pw_and (pt_cmpR op_gt (pe_callB call_len_seq (by rfl) T.b.len PySem.boot_len (pa_cons (pv 4) pa_nil)) pe_int (nomark _)) (pw_and1 (pt_cmpR op_gt (pe_ix ix_list (pv 4) (pe_un un_neg pe_int) (fun _ _ => rfl)) pe_int (nomark _))))) (pss_cons (ps_expr (pe_bm PySem.F.plainAttrs_list PySem.F.slot_list_append PySem.F.type_list_append mt_append (pv 3) (pa_cons pe_str pa_nil)))
      (pss_cons (ps_set (i := 6) sc_law_marked.nd rfl (Or.inl rfl) (pe_bm0 PySem.F.plainAttrs_list PySem.F.slot_list_pop PySem.F.type_list_pop mt_pop (pv 4)))
      (pss_one (ps_asg (pe_op op_add (pe_ix ix_list (pv 4) (pe_un un_neg pe_int) (fun _ _ => rfl)) (pv 6)) (pg_sub (pv 4) (pe_un un_neg pe_int) set_list))))) pss_nil)))) ?_
    intro t3'
    refine go_1 (ps_ret (pv 3)) ?_
    intro t4'
    refine ⟨(by show 0 ≤ sizeLine; omega), fun pl hpl => ?_⟩
    have s1 := same_upd (o := .lst []) hpl
    have e1 : (upd H pl (.lst [])) pl = some (.lst (([] : List Str).map V.str)) := upd_same
    generalize upd H pl (.lst []) = H1 at s1 e1 ⊢
    refine gname_go ?_
    refine ⟨(by show 1 ≤ sizeLine; decide), fun il hil => ?_⟩
    have s2 := same_upd (o := .lst [V.int 0]) hil
    have e2 : (upd H1 il (.lst [V.int 0])) il = some (.lst (nv ([] : List Nat).reverse ++ [V.int ((0 : Nat) : Int)])) := upd_same
    have e1' := s2 _ _ e1
    have ni : H il = none := s1.free hil
    have npi : pl ≠ il := ne_of_none e1 hil
    generalize upd H1 il (.lst [V.int 0]) = H2 at s2 e2 e1' ⊢
    refine gname_go ?_
    dsimp only [List.set]
    have S2 := s1.trans s2
    have sP : ∀ (G : Hp) (o : HO), Same H G → Same H (upd G pl o) := fun G o h b ob e => by rw [upd_ne (ne_of_none e hpl)]; exact h b ob e
    have sI : ∀ (G : Hp) (o : HO), Same H G → Same H (upd G il o) := fun G o h b ob e => by rw [upd_ne (ne_of_none e ni)]; exact h b ob e
    refine ⟨_, rfl, _, rfl, 2, rfl, _, rfl, _, rfl, _, _, rfl, rfl, 62, rfl, a, _, rfl, S2.seq hS, fun cl hcl => ?_⟩
    have hcut : ∃ cs : List Int, cutV (ns.map V.int) (some 2) (some 62) = cs.map V.int ∧ cs.length ≤ 63 := by
      unfold cutV
      rw [← List.map_drop, ← List.map_take]
      refine ⟨_, rfl, ?_⟩
      rw [List.length_take, List.length_drop]
      omega
    obtain ⟨cs, hcs, hcl'⟩ := hcut
    rw [hcs]
    have s3 := same_upd (o := .lst (cs.map V.int)) hcl
    have e3 : (upd H2 cl (.lst (cs.map V.int))) cl = some (.lst (cs.map V.int)) := upd_same
    have npc : pl ≠ cl := ne_of_none e1' hcl
    have nic : il ≠ cl := ne_of_none e2 hcl
    have e1c := s3 _ _ e1'
    have e2c := s3 _ _ e2
    have S3 := S2.trans s3
    generalize upd H2 cl (.lst (cs.map V.int)) = H3 at s3 e3 e1c e2c S3 ⊢
    refine ⟨cl, rfl, ⟨_, SqL.of e3⟩, ?_⟩
    refine for_list (K := K) (a := cl) (xs := cs.map V.int) (fun i σ Hx => ∃ (xs : List Str) (m : Nat) (ms : List Nat) (v5 v6 : Option V), σ = [some (.ref a), some (.int 2), some (.int 60), some (.ref pl), some (.ref il), v5, v6] ∧ Same H Hx ∧ Hx cl = some (.lst (cs.map V.int)) ∧ Hx pl = some (.lst (xs.map V.str)) ∧ Hx il = some (.lst (nv ms.reverse ++ [V.int (m : Int)])) ∧ Opn xs (m :: ms) ∧ xs.length ≤ i ∧ ms.length ≤ i ∧ (m :: ms).sum ≤ 58 ∧ i ≤ cs.length)
      ⟨[], 0, [], none, none, rfl, S3, e3, e1c, e2c, .base .nil, Nat.le_refl _, Nat.le_refl _, by simp, Nat.zero_le _⟩ (fun i σ Hx _ ⟨_, _, _, _, _, _, _, e, _⟩ => SqL.of e) ?_ ?_
    · rintro i y σ Hx hi ⟨xs, m, ms, v5, v6, rfl, sx, eC, eP, eI, ho, hxl, hml, hsum, hic⟩
      obtain ⟨c, hc, rfl⟩ := ints_get hi
      have hilt : i < cs.length := (List.getElem?_eq_some_iff.mp hc).1
      have hnl : (nv ms.reverse ++ [V.int (m : Int)]).length = ms.length + 1 := by simp [nv]
      refine gname_go ?_
      dsimp only [List.set]
      refine ⟨_, rfl, _, _, rfl, rfl, (by show (0 : Int) < 5; decide), rfl, _, rfl, ?_⟩
      by_cases hc0 : V.int (c % 5) = V.int 0
      · rw [decide_eq_true hc0]
        refine iteT ⟨_, rfl, .inl ⟨rfl, _, SqL.of eP⟩, pl, _, _, rfl, rfl, eP, small1000 (by rw [List.length_map]; omega), ?_⟩
        have eI1 : (upd Hx pl (.lst (xs.map V.str ++ [V.str (Str.ofString "<")]))) il = some (.lst (nv ms.reverse ++ [V.int (m : Int)])) := by rw [upd_ne npi.symm]; exact eI
        refine ⟨_, rfl, .inl ⟨rfl, _, SqL.of eI1⟩, il, _, _, rfl, rfl, eI1, small1000 (by omega), ?_⟩
        refine ⟨xs ++ [("<" : Str)], 0, m :: ms, _, _, rfl, sI _ _ (sP _ _ sx), ?_, ?_, ?_, ho.open', by simp; omega, by simp; omega, by simpa using hsum, hilt⟩
        · rw [upd_ne nic.symm, upd_ne npc.symm]; exact eC
        · rw [upd_ne npi, upd_same, List.map_append]; rfl
        · rw [upd_same, nv_snoc]; rfl
      · rw [decide_eq_false hc0]
        refine iteF ?_
        refine if_go _ (dec_and (A := decide (V.int (c % 5) = V.int 4)) (B := decide (1 < ((nv ms.reverse ++ [V.int (m : Int)]).length : Int)) && decide ((1 : Int) < (m : Int)))
          (fun Q h => ⟨_, rfl, _, _, rfl, rfl, (by show (0 : Int) < 5; decide), rfl, _, rfl, h⟩) (dec_and (fun Q h => ⟨_, rfl, il, _, rfl, .inl (SqL.of eI), _, _, rfl, rfl, _, rfl, h⟩) (fun Q h => ⟨_, rfl, _, rfl, il, _, -1, _, rfl, rfl, SqL.of eI, atI_last _ _, _, _, rfl, rfl, _, rfl, h⟩))) (fun hA => ?_) (fun _ => ?_)
        · simp only [Bool.and_eq_true, decide_eq_true_eq] at hA
          rw [hnl] at hA
          obtain ⟨_, h1, h2⟩ := hA
          match ms, h1 with
          | m' :: ms, _ =>
            refine ⟨_, rfl, .inl ⟨rfl, _, SqL.of eP⟩, pl, _, _, rfl, rfl, eP, small1000 (by rw [List.length_map]; omega), ?_⟩
            have eI1 : (upd Hx pl (.lst (xs.map V.str ++ [V.str (Str.ofString ">")]))) il = some (.lst (nv (m' :: ms).reverse ++ [V.int (m : Int)])) := by rw [upd_ne npi.symm]; exact eI
            refine ⟨_, rfl, .inl ⟨rfl, _, SqL.of eI1⟩, il, _, V.int (m : Int), rfl, rfl, eI1, (by simp), ?_⟩
            rw [List.dropLast_concat, nv_snoc]
            refine gname_go ?_
            dsimp only [List.set]
            refine ⟨_, rfl, _, rfl, il, _, -1, _, rfl, rfl, SqL.of upd_same, atI_last _ _, _, rfl, _, _, rfl, rfl, ?_⟩
            refine ⟨_, rfl, _, rfl, il, _, -1, _, rfl, rfl, upd_same, ix_last _ _, ?_⟩
            rw [set_last]
            simp only [List.sum_cons] at hsum
            refine ⟨xs ++ [(">" : Str)], m' + m, ms, _, _, rfl, sI _ _ (sI _ _ (sP _ _ sx)), ?_, ?_, ?_, ho.close (by omega), by simp; omega, by simp at hml; omega, by simp only [List.sum_cons]; omega, hilt⟩
            · rw [upd_ne nic.symm, upd_ne nic.symm, upd_ne npc.symm]; exact eC
            · rw [upd_ne npi, upd_ne npi, upd_same, List.map_append]; rfl
            · rw [upd_same]; rfl
        · refine ⟨_, rfl, pl, rfl, ⟨_, SqL.of eP⟩, fun D hD => ?_⟩
          have nD1 : pl ≠ D := ne_of_none eP hD
          refine comp_invF (n := xs.length) (fun j acc Hc => acc = ((xs.take j).filter notMk).map V.str ∧ Hc = upd Hx D (.lst acc)) ⟨rfl, rfl⟩ ?_ (line1000 (by omega)) ?_ ?_ ?_
          · rintro j acc Hc ⟨rfl, rfl⟩
            refine ⟨upd_same, ?_⟩
            rw [List.length_map]
            exact Nat.le_trans (List.length_filter_le _ _) (by simp; omega)
          · rintro j acc Hc hj ⟨rfl, rfl⟩
            exact ⟨xs.map V.str, .str xs[j], (same_upd hD).seq (SqL.of eP), by rw [List.getElem?_map, List.getElem?_eq_getElem hj]; rfl⟩
          · rintro acc Hc ⟨rfl, rfl⟩
            refine ⟨⟨xs.map V.str, (same_upd hD).seq (SqL.of eP), by simp⟩, ?_⟩
            have sD := same_upd (o := .lst (((xs.take xs.length).filter notMk).map V.str)) hD
            have eI1 := sD _ _ eI
            have eP1 := sD _ _ eP
            have eC1 := sD _ _ eC
            have sx1 := sx.trans sD
            have hcnt : ((((xs.take xs.length).filter notMk).map V.str).length : Int) = ((m :: ms).sum : Nat) := by rw [List.take_length, List.length_map, ho.count]
            refine ⟨D, _, rfl, .inl (SqL.of upd_same), ?_⟩
            generalize upd Hx D (.lst (((xs.take xs.length).filter notMk).map V.str)) = H4 at sD eI1 eP1 eC1 sx1 ⊢
            refine ⟨_, rfl, il, _, rfl, .inl (SqL.of eI1), ?_⟩
            refine ⟨_, _, rfl, rfl, mulOk_of (by decide) (by omega), _, _, rfl, rfl, _, _, rfl, rfl, _, rfl, ?_⟩
            by_cases hlt : ((((xs.take xs.length).filter notMk).map V.str).length : Int) < 60 - 2 * ((nv ms.reverse ++ [V.int (m : Int)]).length : Int)
            · rw [decide_eq_true hlt]
              rw [hcnt, hnl] at hlt
              simp only [List.sum_cons] at hsum hlt
              refine iteT ⟨_, rfl, .inl ⟨rfl, _, SqL.of eP1⟩, _, rfl, _, _, rfl, rfl, ⟨by decide, by decide⟩, _, rfl, fun x hx => ⟨pl, _, _, rfl, rfl, eP1, small1000 (by rw [List.length_map]; omega), ?_⟩⟩
              have eI2 : (upd H4 pl (.lst (xs.map V.str ++ [V.str x]))) il = some (.lst (nv ms.reverse ++ [V.int (m : Int)])) := by rw [upd_ne npi.symm]; exact eI1
              refine ⟨_, rfl, _, rfl, il, _, -1, _, rfl, rfl, SqL.of eI2, atI_last _ _, _, _, rfl, rfl, ?_⟩
              refine ⟨_, rfl, _, rfl, il, _, -1, _, rfl, rfl, eI2, ix_last _ _, ?_⟩
              rw [set_last]
              refine ⟨xs ++ [x], m + 1, ms, _, _, rfl, sI _ _ (sP _ _ sx1), ?_, ?_, ?_, ho.word hx, by simp; omega, by omega, by simp only [List.sum_cons]; omega, hilt⟩
              · rw [upd_ne nic.symm, upd_ne npc.symm]; exact eC1
              · rw [upd_ne npi, upd_same, List.map_append]; rfl
              · rw [upd_same]; rfl
            · rw [decide_eq_false hlt]
              exact iteF ⟨xs, m, ms, _, _, rfl, sx1, eC1, eP1, eI1, ho, by omega, by omega, hsum, hilt⟩
          · rintro j acc Hc y H5 R0 R1 hj ⟨rfl, rfl⟩ ⟨rfl, hy⟩ h0 h1
            have hy' := hy _ ((same_upd hD).seq (SqL.of eP))
            rw [List.getElem?_map, List.getElem?_eq_getElem hj] at hy'
            cases hy'
            have hf := mk_found (ho.pieces xs[j] (List.getElem_mem hj))
            refine ⟨_, rfl, _, _, rfl, rfl, _, rfl, ?_⟩
            rw [hf]
            have ht : (xs.take (j + 1)).filter notMk = (xs.take j).filter notMk ++ (if notMk xs[j] then [xs[j]] else []) := by
              rw [List.take_succ, List.getElem?_eq_getElem hj, List.filter_append]
              simp [List.filter_cons]
            cases hb : notMk xs[j] with
            | true =>
              rw [hb] at ht
              refine iteT ⟨_, rfl, h1 _ _ upd_same ⟨?_, ?_⟩⟩
              · rw [ht, List.map_append]; rfl
              · funext z
                by_cases hz : z = D
                · subst hz; rw [upd_same, upd_same]
                · rw [upd_ne hz, upd_ne hz, upd_ne hz]
            | false =>
              rw [hb] at ht
              refine iteF (h0 _ ⟨?_, rfl⟩)
              rw [ht]; simp
    · rintro σ Hx ⟨xs, m, ms, v5, v6, rfl, sx, eC, eP, eI, ho, hxl, hml, hsum, hic⟩
      rw [List.length_map] at hxl hml
      let W : Nat → L2.St → Hp → Prop := fun k σ H' => ∃ (xs : List Str) (m : Nat) (ms : List Nat) (v5 v6 : Option V), σ = [some (.ref a), some (.int 2), some (.int 60), some (.ref pl), some (.ref il), v5, v6] ∧ Same H H' ∧ H' pl = some (.lst (xs.map V.str)) ∧ H' il = some (.lst (nv ms.reverse ++ [V.int (m : Int)])) ∧ Opn xs (m :: ms) ∧ (m :: ms).sum + (2 - m) ≤ 60 ∧ k = 3 * ms.length + (2 - m) ∧ xs.length + k ≤ 300
      refine ⟨W, ⟨_, xs, m, ms, _, _, rfl, sx, eP, eI, ho, by omega, rfl, by omega⟩, ?_⟩
      clear hsum hxl hml ho eI eP eC sx hic
      rintro k σ Hx ⟨xs, m, ms, v5, v6, rfl, sx, eP, eI, ho, hsum, rfl, hxl⟩
      have hnl : (nv ms.reverse ++ [V.int (m : Int)]).length = ms.length + 1 := by simp [nv]
      obtain ⟨x0, hx0, hx0m⟩ : ∃ x0 : Nat, (nv ms.reverse ++ [V.int (m : Int)])[0]? = some (V.int (x0 : Int)) ∧ (ms = [] → x0 = m) := by
        cases hms : ms.reverse with
        | nil => exact ⟨m, rfl, fun _ => rfl⟩
        | cons z r => exact ⟨z, rfl, fun e => by rw [e] at hms; cases hms⟩
      refine dec_or (A := decide (1 < ((nv ms.reverse ++ [V.int (m : Int)]).length : Int))) (B := decide (V.int (x0 : Int) = V.int 0)) (fun Q h => ⟨_, rfl, il, _, rfl, .inl (SqL.of eI), _, _, rfl, rfl, _, rfl, h⟩) (fun Q h => ⟨_, rfl, il, _, 0, _, rfl, rfl, SqL.of eI, atI_nat hx0, rfl, _, rfl, h⟩) _ ?_
      cases hAB : (decide (1 < ((nv ms.reverse ++ [V.int (m : Int)]).length : Int)) || decide (V.int (x0 : Int) = V.int 0)) with
      | false =>
        simp only [Bool.or_eq_false_iff, decide_eq_false_iff_not] at hAB
        rw [hnl] at hAB
        have hms : ms = [] := List.length_eq_zero_iff.mp (by omega)
        subst hms
        have hx := hx0m rfl
        subst hx
        obtain ⟨w, ps, r, hseg, hwl⟩ := ho.done
        have hm0 : x0 ≠ 0 := fun z => hAB.2 (by rw [z]; rfl)
        simp only [List.sum_cons, List.sum_nil] at hsum
        exact iteF ⟨_, rfl, q pl xs w ps r Hx hpl eP hseg (by omega) (by omega) (by omega) sx⟩
      | true =>
        refine iteT ?_
        have hgo : ms = [] → m = 0 := fun z => by
          rw [hnl, z] at hAB
          have hx := hx0m z
          subst hx
          simp at hAB
          omega
        refine ⟨fun σ' H2 => ∃ m', m' < 3 * ms.length + (2 - m) ∧ W m' σ' H2, fun σ' H2 h => h, ?_⟩
        refine seq_if (fun σ' Hy => ∃ (xs1 : List Str) (m1 : Nat), σ' = [some (.ref a), some (.int 2), some (.int 60), some (.ref pl), some (.ref il), v5, v6] ∧ Same H Hy ∧ Hy pl = some (.lst (xs1.map V.str)) ∧ Hy il = some (.lst (nv ms.reverse ++ [V.int (m1 : Int)])) ∧ Opn xs1 (m1 :: ms) ∧ ((m1 = m + 1 ∧ m < 2 ∧ xs1.length = xs.length + 1) ∨ (m1 = m ∧ 2 ≤ m ∧ xs1.length = xs.length))) ?_ fun hrest => ?_
        · rintro σ' Hy ⟨xs1, m1, rfl, sy, eP1, eI1, ho1, hm1⟩
          have hnl1 : (nv ms.reverse ++ [V.int (m1 : Int)]).length = ms.length + 1 := by simp [nv]
          simp only [List.sum_cons] at hsum
          refine if_go _ (dec_and (A := decide (1 < ((nv ms.reverse ++ [V.int (m1 : Int)]).length : Int))) (B := decide ((1 : Int) < (m1 : Int)))
            (fun Q h => ⟨_, rfl, il, _, rfl, .inl (SqL.of eI1), _, _, rfl, rfl, _, rfl, h⟩) (fun Q h => ⟨_, rfl, _, rfl, il, _, -1, _, rfl, rfl, SqL.of eI1, atI_last _ _, _, _, rfl, rfl, _, rfl, h⟩)) (fun hA => ?_) (fun hA => ?_)
          · simp only [Bool.and_eq_true, decide_eq_true_eq] at hA
            rw [hnl1] at hA
            obtain ⟨h1, h2⟩ := hA
            match ms, h1 with
            | m' :: ms, _ =>
              simp only [List.sum_cons, List.length_cons] at hsum hxl
              refine ⟨_, rfl, .inl ⟨rfl, _, SqL.of eP1⟩, pl, _, _, rfl, rfl, eP1, small1000 (by rw [List.length_map]; omega), ?_⟩
              have eI2 : (upd Hy pl (.lst (xs1.map V.str ++ [V.str (Str.ofString ">")]))) il = some (.lst (nv (m' :: ms).reverse ++ [V.int (m1 : Int)])) := by rw [upd_ne npi.symm]; exact eI1
              refine ⟨_, rfl, .inl ⟨rfl, _, SqL.of eI2⟩, il, _, V.int (m1 : Int), rfl, rfl, eI2, (by simp), ?_⟩
              rw [List.dropLast_concat, nv_snoc]
              refine gname_go ?_
              dsimp only [List.set]
              refine ⟨_, rfl, _, rfl, il, _, -1, _, rfl, rfl, SqL.of upd_same, atI_last _ _, _, rfl, _, _, rfl, rfl, ?_⟩
              refine ⟨_, rfl, _, rfl, il, _, -1, _, rfl, rfl, upd_same, ix_last _ _, ?_⟩
              rw [set_last]
              refine ⟨3 * ms.length + (2 - (m' + m1)), by simp only [List.length_cons]; omega, xs1 ++ [(">" : Str)], m' + m1, ms, _, _, rfl, sI _ _ (sI _ _ (sP _ _ sy)), ?_, ?_, ho1.close (by omega), by simp only [List.sum_cons]; omega, rfl, by rw [List.length_append, List.length_singleton]; omega⟩
              · rw [upd_ne npi, upd_ne npi, upd_same, List.map_append]; rfl
              · rw [upd_same]; rfl
          · simp only [Bool.and_eq_false_iff, decide_eq_false_iff_not] at hA
            rw [hnl1] at hA
            have hcase : m1 = m + 1 ∧ m < 2 ∧ xs1.length = xs.length + 1 := by
              rcases hm1 with h | h
              · exact h
              · exfalso
                have hz : ms = [] := List.length_eq_zero_iff.mp (by omega)
                have := hgo hz
                omega
            exact ⟨3 * ms.length + (2 - m1), by omega, xs1, m1, ms, _, _, rfl, sy, eP1, eI1, ho1, by simp only [List.sum_cons]; omega, rfl, by omega⟩
        · refine ⟨_, rfl, _, rfl, il, _, -1, _, rfl, rfl, SqL.of eI, atI_last _ _, _, _, rfl, rfl, _, rfl, ?_⟩
          by_cases h2 : (m : Int) < 2
          · rw [decide_eq_true h2]
            refine iteT ⟨_, rfl, .inl ⟨rfl, _, SqL.of eP⟩, _, rfl, pl, _, rfl, .inl (SqL.of eP), _, rfl, fun x hx => ⟨pl, _, _, rfl, rfl, eP, small1000 (by rw [List.length_map]; omega), ?_⟩⟩
            have eI2 : (upd Hx pl (.lst (xs.map V.str ++ [V.str x]))) il = some (.lst (nv ms.reverse ++ [V.int (m : Int)])) := by rw [upd_ne npi.symm]; exact eI
            refine ⟨_, rfl, _, rfl, il, _, -1, _, rfl, rfl, SqL.of eI2, atI_last _ _, _, _, rfl, rfl, ?_⟩
            refine ⟨_, rfl, _, rfl, il, _, -1, _, rfl, rfl, eI2, ix_last _ _, ?_⟩
            rw [set_last]
            refine hrest _ _ ⟨xs ++ [x], m + 1, rfl, sI _ _ (sP _ _ sx), ?_, ?_, ho.word hx, .inl ⟨rfl, by omega, by simp⟩⟩
            · rw [upd_ne npi, upd_same, List.map_append]; rfl
            · rw [upd_same]; rfl
          · rw [decide_eq_false h2]
            exact iteF (hrest _ _ ⟨xs, m, rfl, sx, eP, eI, ho, .inr ⟨rfl, by omega, rfl⟩⟩)
abbrev ns_law_turned : List Str := ["parts", "words", "pairs", "pile", "part", "row", "first", "behind", "at", "end"]
theorem sc_law_turned : FnScope ns_law_turned ["parts"] (defScope s_law_turned) := ⟨rfl, rfl, rfl, by decide +kernel, rfl, by decide +kernel, by decide +kernel⟩
def cp_law_turned_0 (s : Stmt) : Scope := match (defBody s).getD 5 (.Pass ⟨0, 0, 0, 0⟩) with
  | .For _ _ [(.Assign _ (.Call _ [(.ListComp _ _ sc _)] _ _) _), _, _] _ _ => sc
  | _ => defScope s
theorem cs_law_turned_0 : CScope (defScope s_law_turned) (cp_law_turned_0 s_law_turned) "number" ["number", "row"] ns_law_turned [5] := cs_of (by decide +kernel)
def cp_law_turned_1 (s : Stmt) : Scope := match (defBody s).getD 6 (.Pass ⟨0, 0, 0, 0⟩) with
  | .Return (some (.ListComp _ _ sc _)) _ => sc
  | _ => defScope s
theorem cs_law_turned_1 : CScope (defScope s_law_turned) (cp_law_turned_1 s_law_turned) "number" ["number", "words"] ns_law_turned [1] := cs_of (by decide +kernel)
theorem ok_lturned (D : Def K mg "_law_turned" s_law_turned ["parts"]) (T : Txt mg) : Has P w K mg base CX0 1 "_law_turned" ["parts"] (spLTurned K) := by
  refine D.ok sc_law_turned (fun vs H Q E h => ?_) (fun f cdv A outer s H vs Q E hr h => ?_)
  · obtain ⟨a, xs, w, ps, r, rfl, _⟩ := h; rfl
  · obtain ⟨a, xs, w, ps, r, rfl, hS, hl, hseg, hw, q⟩ := h
    refine go_c (ps_set (i := 1) sc_law_turned.nd rfl (Or.inr rfl) (pe_lst pa_nil)) ?_
    intro t0'
    refine go_c (ps_set (i := 2) sc_law_turned.nd rfl (Or.inl rfl) (pe_lst pa_nil)) ?_
    intro t1'
    refine go_c (ps_set (i := 3) sc_law_turned.nd rfl (Or.inl rfl) (pe_lst pa_nil)) ?_
    intro t2'
    refine go_c (ps_for PassesOwn.never rfl (pi_list (pv 0)) (pg_name (i := 4) sc_law_turned.nd rfl (Or.inl rfl)) (pss_one (ps_if (pt_cmpR op_eq (pv 4) pe_str (nomark _)) (pss_cons (ps_expr (pe_bm PySem.F.plainAttrs_list PySem.F.slot_list_append PySem.F.type_list_append mt_append (pv 3) (pa_cons (pe_callB call_len_seq (by rfl) T.b.len PySem.boot_len (pa_cons (pv 2) pa_nil)) pa_nil)))
      (pss_one (ps_expr (pe_bm PySem.F.plainAttrs_list PySem.F.slot_list_append PySem.F.type_list_append mt_append (pv 2) (pa_cons (pe_lst (pa_cons (pe_callB call_len_seq (by rfl) T.b.len PySem.boot_len (pa_cons (pv 1) pa_nil)) (pa_cons pe_int pa_nil))) pa_nil))))) (pss_one (ps_if (pt_cmpR op_eq (pv 4) pe_str (nomark _)) (pss_one (ps_asg (pe_callB call_len_seq (by rfl) T.b.len PySem.boot_len (pa_cons (pv 1) pa_nil)) (pg_sub (pe_ix ix_list (pv 2) (pe_bm0 PySem.F.plainAttrs_list PySem.F.slot_list_pop PySem.F.type_list_pop mt_pop (pv 3)) (fun _ _ => rfl)) pe_int set_list))) (pss_one (ps_expr (pe_bm PySem.F.plainAttrs_list PySem.F.slot_list_append PySem.F.type_list_append mt_append (pv 1) (pa_cons (pv 4) pa_nil))))))))) ?_
    intro t3'
    refine go_c (ps_set (i := 5) sc_law_turned.nd rfl (Or.inr rfl) (pe_callTy (call_listRange rfl) (by rfl) T.b.lst boot_ty_list (pa_cons (pe_callTy call_rangeO (by rfl) T.b.rng boot_ty_range (pa_cons (pe_callB call_len_seq (by rfl) T.b.len PySem.boot_len (pa_cons (pv 1) pa_nil)) pa_nil)) pa_nil))) ?_
    intro t4'
    refine go_c (ps_for PassesOwn.never rfl (pi_list (pv 2)) (pg_tupL rfl (pgs_cons (pg_name (i := 6) sc_law_turned.nd rfl (Or.inl rfl)) (pgs_cons (pg_name (i := 7) sc_law_turned.nd rfl (Or.inl rfl)) pgs_nil))) (pss_cons (ps_set (i := 8) sc_law_turned.nd rfl (Or.inl rfl) (pe_callB (call_minL rfl) (by rfl) T.min boot_min (pa_cons (pe_comp rfl cs_law_turned_0 rfl (pi_range2 rfl T.b.rng (pa_cons (pv 6) (pa_cons (pv 7) pa_nil))) (fun cl C fp s H => pg_name (i := 0) cs_law_turned_0.nd rfl (Or.inl rfl)) (fun cl C fp s H => pts_nil) (fun cl C fp s H => (show PE _ _ (tBM K "list" rIndex (tVar 1) (tCons (tVar 0) tNil)) from pe_bm PySem.F.plainAttrs_list PySem.F.slot_list_index PySem.F.type_list_index mt_index (pv 1) (pa_cons (pv 0) pa_nil)))) pa_nil)))
      (pss_cons (ps_set (i := 9) sc_law_turned.nd rfl (Or.inl rfl) (pe_op op_sub (pe_op op_add (pv 8) (pv 7)) (pv 6)))
      (pss_one (ps_set (i := 5) sc_law_turned.nd rfl (Or.inr rfl) (pe_op op_cat (pe_op op_cat (pe_slice sl_list (pv 5) po_none (po_some (pv 8))) (pe_revL (pe_slice sl_list (pv 5) (po_some (pv 8)) (po_some (pv 9))) (pe_un un_neg pe_int))) (pe_slice sl_list (pv 5) (po_some (pv 9)) po_none))))))) ?_
    intro t5'
    refine go_1 (ps_ret (pe_comp rfl cs_law_turned_1 rfl (pi_list (pv 5)) (fun cl C fp s H => pg_name (i := 0) cs_law_turned_1.nd rfl (Or.inl rfl)) (fun cl C fp s H => pts_nil) (fun cl C fp s H => (pe_ix (r := rIxL K) ix_list (pv 1) (pv 0) (fun _ _ => rfl))))) ?_
    intro t6'
    refine ⟨(by show 0 ≤ sizeLine; omega), fun wl hwl => ?_⟩
    have s1 := same_upd (o := .lst []) hwl
    have e1 : (upd H wl (.lst [])) wl = some (.lst (([] : List Str).map V.str)) := upd_same
    generalize upd H wl (.lst []) = H1 at s1 e1 ⊢
    refine gname_go ?_
    refine ⟨(by show 0 ≤ sizeLine; omega), fun pr hpr => ?_⟩
    have s2 := same_upd (o := .lst []) hpr
    have e2 : (upd H1 pr (.lst [])) pr = some (.lst (([] : List Addr).map V.ref)) := upd_same
    have e1' := s2 _ _ e1
    have n12 : wl ≠ pr := ne_of_none e1 hpr
    have npr : H pr = none := s1.free hpr
    generalize upd H1 pr (.lst []) = H2 at s2 e2 e1' ⊢
    refine gname_go ?_
    refine ⟨(by show 0 ≤ sizeLine; omega), fun st hst => ?_⟩
    have s3 := same_upd (o := .lst []) hst
    have e3 : (upd H2 st (.lst [])) st = some (.lst (nv ([] : List Nat).reverse)) := upd_same
    have e1'' := s3 _ _ e1'
    have e2'' := s3 _ _ e2
    have n13 : wl ≠ st := ne_of_none e1' hst
    have n23 : pr ≠ st := ne_of_none e2 hst
    have nst : H st = none := (s1.trans s2).free hst
    have S3 := s1.trans (s2.trans s3)
    generalize upd H2 st (.lst []) = H3 at s3 e3 e1'' e2'' S3 ⊢
    refine gname_go ?_
    dsimp only [List.set]
    have sA : ∀ (x : Addr) (G : Hp) (o : HO), H x = none → Same H G → Same H (upd G x o) := fun x G o hx h b ob e => by rw [upd_ne (ne_of_none e hx)]; exact h b ob e
    refine ⟨_, rfl, a, rfl, ⟨_, S3.seq hS⟩, ?_⟩
    refine for_list (K := K) (a := a) (xs := xs.map V.str) (fun i σ Hx => ∃ (W : List Str) (P : List (Nat × Nat)) (pl : List Nat) (rs : List Addr) (v4 : Option V), σ = [some (.ref a), some (.ref wl), some (.ref pr), some (.ref st), v4, none, none, none, none, none] ∧ Same H Hx ∧ Hx wl = some (.lst (W.map V.str)) ∧ Hx pr = some (.lst (rs.map V.ref)) ∧ Hx st = some (.lst (nv pl.reverse)) ∧ VLs Hx rs (P.map pv2) ∧ rs.Nodup ∧ (∀ x ∈ rs, H x = none ∧ x ≠ wl ∧ x ≠ pr ∧ x ≠ st) ∧ prT (xs.drop i) W P pl = some (w, ps) ∧ W.length ≤ i ∧ P.length ≤ i ∧ pl.length ≤ i ∧ i ≤ xs.length)
      ⟨[], [], [], [], none, rfl, S3, e1'', e2'', e3, .nil, List.nodup_nil, (fun x hx => by cases hx), hseg.pairs, Nat.le_refl _, Nat.le_refl _, Nat.le_refl _, Nat.zero_le _⟩ (fun i σ Hx _ ⟨_, _, _, _, _, _, sx, _⟩ => sx.seq hS) ?_ ?_
    · rintro i y σ Hx hi ⟨W, P, pl, rs, v4, rfl, sx, eW, eP, eS, hV, hnd, hrs, hT, hWl, hPl, hpl, hix⟩
      rw [List.getElem?_map] at hi
      obtain ⟨p, hp, rfl⟩ := Option.map_eq_some_iff.mp hi
      obtain ⟨hil, hpe⟩ := List.getElem?_eq_some_iff.mp hp
      rw [List.drop_eq_getElem_cons hil, hpe, prT.eq_def] at hT
      dsimp only at hT
      have hrl := hV.len
      rw [List.length_map] at hrl
      have hwn : wl ∉ rs := fun hm => (hrs _ hm).2.1 rfl
      have hpn : pr ∉ rs := fun hm => (hrs _ hm).2.2.1 rfl
      have hsn : st ∉ rs := fun hm => (hrs _ hm).2.2.2 rfl
      refine gname_go ?_
      dsimp only [List.set]
      refine ⟨_, rfl, rfl, _, rfl, ?_⟩
      by_cases h1 : p = "<"
      · rw [decide_eq_true (show V.str p = V.str "<" by rw [h1])]
        rw [if_pos h1] at hT
        refine iteT ⟨_, rfl, .inl ⟨rfl, _, SqL.of eS⟩, _, rfl, pr, _, rfl, .inl (SqL.of eP), st, _, _, rfl, rfl, eS, small1000 (by rw [nv_len, List.length_reverse]; omega), ?_⟩
        rw [show nv pl.reverse ++ [V.int ((rs.map V.ref).length : Int)] = nv (P.length :: pl).reverse by rw [nv_snoc, List.length_map, hrl]]
        have eS1 : (upd Hx st (.lst (nv (P.length :: pl).reverse))) st = some (.lst (nv (P.length :: pl).reverse)) := upd_same
        have eW1 : (upd Hx st (.lst (nv (P.length :: pl).reverse))) wl = some (.lst (W.map V.str)) := by rw [upd_ne n13]; exact eW
        have eP1 : (upd Hx st (.lst (nv (P.length :: pl).reverse))) pr = some (.lst (rs.map V.ref)) := by rw [upd_ne n23]; exact eP
        have sx1 := sA st _ (.lst (nv (P.length :: pl).reverse)) nst sx
        have hV1 := VLs.upd (o := .lst (nv (P.length :: pl).reverse)) hsn hV
        generalize upd Hx st (.lst (nv (P.length :: pl).reverse)) = G1 at eS1 eW1 eP1 sx1 hV1 ⊢
        refine ⟨_, rfl, .inl ⟨rfl, _, SqL.of eP1⟩, _, rfl, wl, _, rfl, .inl (SqL.of eW1), (by show 2 ≤ sizeLine; decide), fun nr hnr => ?_⟩
        rw [show [V.int ((W.map V.str).length : Int), V.int 0] = pv2 (W.length, 0) by rw [List.length_map]; rfl]
        have s2' := same_upd (o := .lst (pv2 (W.length, 0))) hnr
        have enr : (upd G1 nr (.lst (pv2 (W.length, 0)))) nr = some (.lst (pv2 (W.length, 0))) := upd_same
        have a1 := (ne_of_none eW1 hnr).symm
        have a2 := (ne_of_none eP1 hnr).symm
        have a3 := (ne_of_none eS1 hnr).symm
        have a4 : nr ∉ rs := fun hm => by
          obtain ⟨j, hj, e⟩ := List.getElem_of_mem hm
          obtain ⟨ys, _, ey⟩ := hV1.get (i := j) (p := nr) (by rw [List.getElem?_eq_getElem hj, e])
          rw [hnr] at ey
          cases ey
        have a5 := sx1.free hnr
        have hV2 := hV1.mono s2'
        have eS2 := s2' _ _ eS1
        have eW2 := s2' _ _ eW1
        have eP2 := s2' _ _ eP1
        have sx2 := sx1.trans s2'
        generalize upd G1 nr (.lst (pv2 (W.length, 0))) = G2 at s2' enr hV2 eS2 eW2 eP2 sx2 ⊢
        refine ⟨pr, _, _, rfl, rfl, eP2, small1000 (by rw [List.length_map]; omega), ?_⟩
        refine ⟨W, P ++ [(W.length, 0)], P.length :: pl, rs ++ [nr], _, rfl, sA pr _ _ npr sx2, by rw [upd_ne n12]; exact eW2, by rw [upd_same, List.map_append]; rfl, by rw [upd_ne n23.symm]; exact eS2, ?_, ?_, ?_, hT, by omega, by simp; omega, by simp; omega, hil⟩
        · rw [List.map_append]
          exact VLs.app (VLs.upd hpn hV2) (.cons (by rw [upd_ne a2]; exact enr) .nil)
        · refine List.nodup_append.mpr ⟨hnd, by simp, fun x hx y hy => ?_⟩
          rw [List.mem_singleton.mp hy]
          exact fun z => a4 (z ▸ hx)
        · intro x hx
          rcases List.mem_append.mp hx with hx | hx
          · exact hrs x hx
          · rw [List.mem_singleton.mp hx]
            exact ⟨a5, a1, a2, a3⟩
      · rw [decide_eq_false (show ¬ V.str p = V.str "<" from fun z => h1 (V.str.inj z))]
        rw [if_neg h1] at hT
        refine iteF ⟨_, rfl, rfl, _, rfl, ?_⟩
        by_cases h2 : p = ">"
        · rw [decide_eq_true (show V.str p = V.str ">" by rw [h2])]
          rw [if_pos h2] at hT
          refine iteT ?_
          cases pl with
          | nil => cases hT
          | cons k pl =>
            dsimp only at hT
            by_cases hk : k < P.length
            · rw [if_pos hk] at hT
              rw [nv_snoc] at eS
              obtain ⟨rk, hrk⟩ : ∃ rk, rs[k]? = some rk := ⟨_, List.getElem?_eq_getElem (by omega)⟩
              obtain ⟨ys, hys, erk⟩ := hV.get hrk
              have hpk : P[k]? = some P[k] := List.getElem?_eq_getElem hk
              rw [List.getElem?_map, hpk] at hys
              cases hys
              have hmem := List.mem_of_getElem? hrk
              obtain ⟨b0, b1, b2, b3⟩ := hrs rk hmem
              refine ⟨_, rfl, wl, _, rfl, .inl (SqL.of eW), _, rfl, _, rfl, .inl ⟨rfl, _, SqL.of eS⟩, st, _, V.int (k : Int), rfl, rfl, eS, (by simp), ?_⟩
              rw [List.dropLast_concat]
              have eS1 : (upd Hx st (.lst (nv pl.reverse))) st = some (.lst (nv pl.reverse)) := upd_same
              have eW1 : (upd Hx st (.lst (nv pl.reverse))) wl = some (.lst (W.map V.str)) := by rw [upd_ne n13]; exact eW
              have eP1 : (upd Hx st (.lst (nv pl.reverse))) pr = some (.lst (rs.map V.ref)) := by rw [upd_ne n23]; exact eP
              have er1 : (upd Hx st (.lst (nv pl.reverse))) rk = some (.lst (pv2 P[k])) := by rw [upd_ne b3]; exact erk
              have sx1 := sA st _ (.lst (nv pl.reverse)) nst sx
              have hV1 := VLs.upd (o := .lst (nv pl.reverse)) hsn hV
              generalize upd Hx st (.lst (nv pl.reverse)) = G1 at eS1 eW1 eP1 er1 sx1 hV1 ⊢
              refine ⟨pr, _, (k : Int), V.ref rk, rfl, rfl, SqL.of eP1, atI_nat (by rw [List.getElem?_map, hrk]; rfl), rk, _, 1, 1, rfl, rfl, er1, rfl, ?_⟩
              rw [show (pv2 P[k]).set 1 (V.int ((W.map V.str).length : Int)) = pv2 ((fun p : Nat × Nat => (p.1, W.length)) P[k]) by rw [List.length_map]; rfl]
              refine ⟨W, P.modify k fun p => (p.1, W.length), pl, rs, _, rfl, sA rk _ _ b0 sx1, by rw [upd_ne b1.symm]; exact eW1, by rw [upd_ne b2.symm]; exact eP1, by rw [upd_ne b3.symm]; exact eS1, ?_, hnd, hrs, hT, by omega, by rw [List.length_modify]; omega, by simp at hpl; omega, hil⟩
              rw [pv2_modify _ P k P[k] hpk]
              exact VLs.setAt hnd hV1 hrk
            · rw [if_neg hk] at hT; cases hT
        · rw [decide_eq_false (show ¬ V.str p = V.str ">" from fun z => h2 (V.str.inj z))]
          rw [if_neg h2] at hT
          refine iteF ?_
          refine ⟨_, rfl, .inl ⟨rfl, _, SqL.of eW⟩, _, rfl, wl, _, _, rfl, rfl, eW, small1000 (by rw [List.length_map]; omega), ?_⟩
          refine ⟨W ++ [p], P, pl, rs, _, rfl, sA wl _ _ hwl sx, by rw [upd_same, List.map_append]; rfl, by rw [upd_ne n12.symm]; exact eP, by rw [upd_ne n13.symm]; exact eS, VLs.upd hwn hV, hnd, hrs, hT, by simp; omega, by omega, by omega, hil⟩
    · rintro σ Hx ⟨W, P, pl, rs, v4, rfl, sx, eW, eP, eS, hV, hnd, hrs, hT, hWl, hPl, hpl, hix⟩
      rw [List.length_map] at hT hPl
      rw [List.drop_length, prT.eq_def] at hT
      cases hT
      have hrl := hV.len
      rw [List.length_map] at hrl
      refine ⟨_, rfl, wl, _, rfl, .inl (SqL.of eW), _, rfl, fun rp hrp => ?_⟩
      rw [List.length_map]
      have s4 := same_upd (o := .rng 0 (w.length : Int)) hrp
      refine ⟨rp, w.length, rfl, upd_same, by omega, fun r0 hr0 => ?_⟩
      have s5 := same_upd (o := .lst ((List.range w.length).map fun (i : Nat) => V.int (i : Int))) hr0
      have e5 : (upd (upd Hx rp (.rng 0 (w.length : Int))) r0 (.lst ((List.range w.length).map fun (i : Nat) => V.int (i : Int)))) r0 = some (.lst (nv (List.range w.length))) := upd_same
      have S5 := s4.trans s5
      generalize upd (upd Hx rp (.rng 0 (w.length : Int))) r0 (.lst ((List.range w.length).map fun (i : Nat) => V.int (i : Int))) = G at e5 S5 ⊢
      have eWg := S5 _ _ eW
      have ePg := S5 _ _ eP
      have hVg := hV.mono S5
      have SG := sx.trans S5
      refine gname_go ?_
      dsimp only [List.set]
      refine ⟨_, rfl, pr, rfl, ⟨_, SqL.of ePg⟩, ?_⟩
      refine for_list (K := K) (a := pr) (xs := rs.map V.ref) (fun i σ Hy => ∃ (rl : Addr) (row : List Nat) (v6 v7 v8 v9 : Option V), σ = [some (.ref a), some (.ref wl), some (.ref pr), some (.ref st), v4, some (.ref rl), v6, v7, v8, v9] ∧ Same G Hy ∧ Hy rl = some (.lst (nv row)) ∧ row = (ps.take i).foldl tstep (List.range w.length))
        ⟨r0, List.range w.length, none, none, none, none, rfl, Same.refl _, e5, rfl⟩ (fun i σ Hy _ ⟨_, _, _, _, _, _, _, sy, _⟩ => SqL.of (sy _ _ ePg)) ?_ ?_
      · rintro i y σ Hy hi ⟨rl, row, v6, v7, v8, v9, rfl, sy, eR, hrow⟩
        obtain ⟨rk, hrk, rfl⟩ := refs_get hi
        obtain ⟨ys, hys, erk⟩ := hVg.get hrk
        rw [List.getElem?_map] at hys
        obtain ⟨p, hp, rfl⟩ := Option.map_eq_some_iff.mp hys
        have h2 := hseg.two p (List.mem_of_getElem? hp)
        have hperm : row.Perm (List.range w.length) := by rw [hrow]; exact folds_perm _ _
        have hlen : row.length = w.length := by rw [hperm.length_eq, List.length_range]
        have hin : ∀ j, j < w.length → j ∈ row := fun j hj => hperm.mem_iff.mpr (List.mem_range.mpr hj)
        obtain ⟨p1, p2⟩ := p
        dsimp only at h2
        refine ⟨rk, _, rfl, SqL.of (sy _ _ erk), rfl, _, _, rfl, _, _, rfl, rfl, ?_⟩
        refine ⟨_, rfl, _, rfl, (p1 : Int), (p2 : Int), rfl, ⟨by omega, by omega, by omega, by omega⟩, fun D hD => ?_⟩
        have en : ((p2 : Int) - (p1 : Int)).toNat = p2 - p1 := by omega
        rw [en]
        have hnv : nv row = (row.map fun (k : Nat) => (k : Int)).map V.int := by rw [nv, List.map_map]; rfl
        refine comp_range (lo := (p1 : Int)) (n := p2 - p1) (fun j => V.int ((row.idxOf (p1 + j) : Nat) : Int)) (line1000 (by omega)) (fun j acc R hj hR => ?_) ?_
        · have eR1 := same_upd (o := .lst acc) hD _ _ eR
          obtain ⟨g1, g2⟩ := idx_at (hin (p1 + j) (by omega))
          refine ⟨_, rfl, .inl ⟨rfl, _, SqL.of eR1⟩, _, rfl, rl, row.map fun (k : Nat) => (k : Int), (p1 : Int) + (j : Int), row.idxOf (p1 + j), rfl, rfl, by rw [← hnv]; exact eR1, by rw [g1]; simp, fun m hm => by have := g2 m hm; simpa using this, by simp; omega, hR⟩
        · have sD := same_upd (o := .lst ((List.range (p2 - p1)).map fun j => V.int ((row.idxOf (p1 + j) : Nat) : Int))) hD
          have eD : (upd Hy D (.lst ((List.range (p2 - p1)).map fun j => V.int ((row.idxOf (p1 + j) : Nat) : Int)))) D = some (.lst ((idxs row p1 (p2 - p1)).map V.int)) := by rw [upd_same, idxs, List.map_map]; rfl
          have eR1 := sD _ _ eR
          generalize upd Hy D (.lst ((List.range (p2 - p1)).map fun j => V.int ((row.idxOf (p1 + j) : Nat) : Int))) = G1 at sD eD eR1 ⊢
          obtain ⟨g1, g2⟩ := minIx_min (row := row) (f := p1) (n := p2 - p1) (by omega)
          have g3 := minIx_le (n := p2 - p1) (by omega) (hin p1 (by omega))
          refine ⟨D, _, _, rfl, SqL.of eD, g1, g2, ?_⟩
          have hstep : tstep row (p1, p2) = row.take (minIx row p1 (p2 - p1)) ++ ((row.drop (minIx row p1 (p2 - p1))).take (p2 - p1)).reverse ++ row.drop (minIx row p1 (p2 - p1) + (p2 - p1)) := rfl
          have hnext : tstep row (p1, p2) = (ps.take (i + 1)).foldl tstep (List.range w.length) := by rw [List.take_succ, hp, List.foldl_append, ← hrow]; rfl
          generalize minIx row p1 (p2 - p1) = at' at g1 g2 g3 hstep ⊢
          refine gname_go ?_
          dsimp only [List.set]
          refine ⟨_, rfl, _, rfl, _, _, rfl, rfl, _, rfl, _, _, rfl, rfl, ?_⟩
          refine gname_go ?_
          dsimp only [List.set]
          rw [show (at' : Int) + (p2 : Int) - (p1 : Int) = ((at' + (p2 - p1) : Nat) : Int) by omega]
          refine ⟨_, rfl, _, rfl, (at' : Int), rfl, rl, _, rfl, SqL.of eR1, fun q1 hq1 => ?_⟩
          have hnl : (nv row).length = row.length := nv_len row
          rw [cutV_head _ at' (by omega)]
          have t1 := same_upd (o := .lst ((nv row).take at')) hq1
          have f1 : (upd G1 q1 (.lst ((nv row).take at'))) q1 = some (.lst ((nv row).take at')) := upd_same
          have eR2 := t1 _ _ eR1
          generalize upd G1 q1 (.lst ((nv row).take at')) = G2 at t1 f1 eR2 ⊢
          refine ⟨_, rfl, _, rfl, (at' : Int), rfl, _, rfl, ((at' + (p2 - p1) : Nat) : Int), rfl, rl, _, rfl, SqL.of eR2, fun q2 hq2 => ?_⟩
          rw [cutMid _ at' (at' + (p2 - p1)) (by omega), Nat.add_sub_cancel_left]
          have t2 := same_upd (o := .lst (((nv row).drop at').take (p2 - p1))) hq2
          have f2 : (upd G2 q2 (.lst (((nv row).drop at').take (p2 - p1)))) q2 = some (.lst (((nv row).drop at').take (p2 - p1))) := upd_same
          have eR3 := t2 _ _ eR2
          have f1b := t2 _ _ f1
          generalize upd G2 q2 (.lst (((nv row).drop at').take (p2 - p1))) = G3 at t2 f2 eR3 f1b ⊢
          refine ⟨_, rfl, rfl, q2, _, rfl, SqL.of f2, fun q3 hq3 => ?_⟩
          have t3 := same_upd (o := .lst (((nv row).drop at').take (p2 - p1)).reverse) hq3
          refine ⟨q1, q3, _, _, rfl, rfl, t3 _ _ f1b, upd_same, line1000 (by simp; omega), fun q4 hq4 => ?_⟩
          have t4 := same_upd (o := .lst ((nv row).take at' ++ (((nv row).drop at').take (p2 - p1)).reverse)) hq4
          have f4 : (upd (upd G3 q3 (.lst (((nv row).drop at').take (p2 - p1)).reverse)) q4 (.lst ((nv row).take at' ++ (((nv row).drop at').take (p2 - p1)).reverse))) q4 = some (.lst ((nv row).take at' ++ (((nv row).drop at').take (p2 - p1)).reverse)) := upd_same
          have t34 := t3.trans t4
          have eR4 := t34 _ _ eR3
          generalize upd (upd G3 q3 (.lst (((nv row).drop at').take (p2 - p1)).reverse)) q4 (.lst ((nv row).take at' ++ (((nv row).drop at').take (p2 - p1)).reverse)) = G4 at t34 f4 eR4 ⊢
          refine ⟨_, rfl, _, rfl, ((at' + (p2 - p1) : Nat) : Int), rfl, rl, _, rfl, SqL.of eR4, fun q5 hq5 => ?_⟩
          rw [cutEnd]
          have t5 := same_upd (o := .lst ((nv row).drop (at' + (p2 - p1)))) hq5
          refine ⟨q4, q5, _, _, rfl, rfl, t5 _ _ f4, upd_same, line1000 (by simp; omega), fun q6 hq6 => ?_⟩
          refine gname_go ?_
          dsimp only [List.set]
          refine ⟨q6, tstep row (p1, p2), _, _, _, _, rfl, sy.trans (sD.trans (t1.trans (t2.trans (t34.trans (t5.trans (same_upd hq6)))))), ?_, hnext⟩
          rw [upd_same, hstep]
          simp [nv, List.map_append, List.map_reverse, List.map_take, List.map_drop]
      · rintro σ Hy ⟨rl, row, v6, v7, v8, v9, rfl, sy, eR, hrow⟩
        rw [List.length_map, List.take_of_length_le (by omega), hseg.turned] at hrow
        subst hrow
        have hlen := hseg.len
        refine ⟨_, rfl, rl, rfl, ⟨_, SqL.of eR⟩, fun D hD => ?_⟩
        refine comp_list (K := K) (a := rl) (xs := nv row) (fun j => V.str (w.getD (row.getD j 0) "")) (line1000 (by rw [nv_len]; omega)) (fun acc => (same_upd hD).seq (SqL.of eR)) (fun j y acc R hy hR => ?_) ?_
        · rw [nv, List.getElem?_map] at hy
          obtain ⟨k, hk, rfl⟩ := Option.map_eq_some_iff.mp hy
          have hkw := hseg.lt k (List.mem_of_getElem? hk)
          have e : w.getD (row.getD j 0) "" = w[k] := by rw [show row.getD j 0 = k by simp [List.getD, hk]]; simp [List.getD, hkw]
          rw [e] at hR
          exact ⟨_, rfl, _, rfl, wl, _, (k : Int), V.str w[k], rfl, rfl, SqL.of (same_upd hD _ _ (sy _ _ eWg)), atI_nat (by rw [List.getElem?_map, List.getElem?_eq_getElem hkw]; rfl), hR⟩
        · refine q D _ ?_ (SG.trans (sy.trans (same_upd hD)))
          rw [upd_same, nv_len, rowW, List.map_map]
          congr 2
          apply List.ext_getElem
          · simp
          · intro j h1 h2
            simp at h1
            simp [List.getD, h1]
abbrev ns_law_is_word : List Str := ["part", "sign"]
theorem sc_law_is_word : FnScope ns_law_is_word ["part"] (defScope s_law_is_word) := ⟨rfl, rfl, rfl, by decide +kernel, rfl, by decide +kernel, by decide +kernel⟩
theorem ok_lisw (D : Def K mg "_law_is_word" s_law_is_word ["part"]) (T : Txt mg) : Has P w K mg base CX0 1 "_law_is_word" ["part"] spLIsW := by
  refine D.ok sc_law_is_word (fun vs H Q E h => ?_) (fun f cdv A outer s H vs Q E hr h => ?_)
  · obtain ⟨x, rfl, _⟩ := h; rfl
  · obtain ⟨x, rfl, hx, q⟩ := h
    refine go_c (ps_for PassesOwn.never rfl (pi_str (pv 0)) (pg_name (i := 1) sc_law_is_word.nd rfl (Or.inl rfl)) (pss_one (ps_if (pt_cmpR op_notin_str (pv 1) pe_str rfl) (pss_one (ps_ret pe_bl)) pss_nil))) ?_
    intro t0'
    refine go_1 (ps_ret (pe_chain op_le op_le pe_int (pe_callB call_len_str (by rfl) T.b.len PySem.boot_len (pa_cons (pv 0) pa_nil)) pe_int)) ?_
    intro t1'
    refine ⟨_, rfl, x, rfl, for_str (x := x) (fun i σ Hx => ∃ v1 : Option V, σ = [some (.str x), v1] ∧ Hx = H ∧ ∀ c ∈ x.cps.toList.take i, c ∈ signs) ⟨none, rfl, rfl, by simp⟩ ?_ ?_⟩
    · rintro i c σ Hx hc ⟨v1, rfl, rfl, hs⟩
      refine gname_go ?_
      dsimp only [List.set]
      refine ⟨_, rfl, _, _, rfl, rfl, _, rfl, ?_⟩
      rw [StrLaws.found_one]
      by_cases hcs : c ∈ signs
      · rw [show (!decide (c ∈ (Str.ofString "abcdefghijklmnopqrstuvwxyz0123456789").cps.toList)) = false by rw [decide_eq_true (show c ∈ (Str.ofString "abcdefghijklmnopqrstuvwxyz0123456789").cps.toList from hcs)]; rfl]
        refine iteF ⟨_, rfl, rfl, fun d hd => ?_⟩
        rw [List.take_succ, hc] at hd
        rcases List.mem_append.mp hd with h | h
        · exact hs d h
        · have : d = c := by simpa using h
          rw [this]; exact hcs
      · rw [show (!decide (c ∈ (Str.ofString "abcdefghijklmnopqrstuvwxyz0123456789").cps.toList)) = true by rw [decide_eq_false (show ¬ c ∈ (Str.ofString "abcdefghijklmnopqrstuvwxyz0123456789").cps.toList from hcs)]; rfl]
        have e : isW x = false := by
          cases h : isW x with
          | false => rfl
          | true => exact absurd (List.mem_of_getElem? hc) (isW_free h hcs)
        rw [e] at q
        exact iteT q
    · rintro σ Hx ⟨v1, rfl, rfl, hs⟩
      have hl : x.cps.toList.length = x.length := by simp [Str.length]
      rw [← hl, List.take_length] at hs
      have e : isW x = (decide ((1 : Int) ≤ (x.length : Int)) && decide ((x.length : Int) ≤ 8)) := by
        unfold isW
        have ha : (x.cps.toList.all fun c => decide (c ∈ signs)) = true := by
          simp only [List.all_eq_true, decide_eq_true_eq]
          exact hs
        rw [ha, Bool.and_true]
        congr 1
        · exact decide_eq_decide.mpr (by omega)
        · exact decide_eq_decide.mpr (by omega)
      rw [e] at q
      refine ⟨_, rfl, x, rfl, line_mil (by omega), _, _, rfl, rfl, _, rfl, ?_⟩
      cases h1 : decide ((1 : Int) ≤ (x.length : Int)) with
      | true =>
        rw [h1] at q
        exact iteT ⟨_, _, rfl, rfl, q⟩
      | false =>
        rw [h1] at q
        exact iteF q
abbrev ns_law_good : List Str := ["parts", "inside", "part", "gone"]
theorem sc_law_good : FnScope ns_law_good ["parts"] (defScope s_law_good) := ⟨rfl, rfl, rfl, by decide +kernel, rfl, by decide +kernel, by decide +kernel⟩
theorem ok_lgood (D : Def K mg "_law_good" s_law_good ["parts"]) (T : Txt mg) (h_law_is_word : Has P w K mg base CX0 1 "_law_is_word" ["part"] spLIsW) : Has P w K mg base CX0 2 "_law_good" ["parts"] (spGood K) := by
  refine D.ok sc_law_good (fun vs H Q E h => ?_) (fun f cdv A outer s H vs Q E hr h => ?_)
  · obtain ⟨a, xs, rfl, _⟩ := h; rfl
  · obtain ⟨a, xs, rfl, hS, hl, hxl, q⟩ := h
    refine go_c (ps_set (i := 1) sc_law_good.nd rfl (Or.inl rfl) (pe_lst (pa_cons pe_int pa_nil))) ?_
    intro t0'
    refine go_c (ps_for PassesOwn.never rfl (pi_list (pv 0)) (pg_name (i := 2) sc_law_good.nd rfl (Or.inl rfl)) (pss_one (ps_if (pt_cmpR op_eq (pv 2) pe_str (nomark _)) (pss_one (ps_expr (pe_bm PySem.F.plainAttrs_list PySem.F.slot_list_append PySem.F.type_list_append mt_append (pv 1) (pa_cons pe_int pa_nil)))) (pss_one (ps_if (pt_cmpR op_eq (pv 2) pe_str (nomark _)) (pss_cons (ps_if (PW.pt (pw_or (pt_cmpR op_eq (pe_callB call_len_seq (by rfl) T.b.len PySem.boot_len (pa_cons (pv 1) pa_nil)) pe_int (nomark _)) (pw_or1 (pt_cmpR op_lt (pe_ix ix_list (pv 1) (pe_un un_neg pe_int) (fun _ _ => rfl)) pe_int (nomark _))))) (pss_one (ps_ret pe_bl)) pss_nil)
      (pss_cons (ps_set (i := 3) sc_law_good.nd rfl (Or.inl rfl) (pe_bm0 PySem.F.plainAttrs_list PySem.F.slot_list_pop PySem.F.type_list_pop mt_pop (pv 1)))
      (pss_one (ps_asg (pe_op op_add (pe_ix ix_list (pv 1) (pe_un un_neg pe_int) (fun _ _ => rfl)) (pv 3)) (pg_sub (pv 1) (pe_un un_neg pe_int) set_list))))) (pss_one (ps_if (pt_val (pe_has h_law_is_word hr (by rfl) pass0 (pa_cons (pv 2) pa_nil))) (pss_one (ps_asg (pe_op op_add (pe_ix ix_list (pv 1) (pe_un un_neg pe_int) (fun _ _ => rfl)) pe_int) (pg_sub (pv 1) (pe_un un_neg pe_int) set_list))) (pss_one (ps_ret pe_bl))))))))) ?_
    intro t1'
    refine go_1 (ps_ret (pe_and (pe_cmpR op_eq (pe_callB call_len_seq (by rfl) T.b.len PySem.boot_len (pa_cons (pv 1) pa_nil)) pe_int (nomark _)) (pe_one (pe_chain op_le op_le pe_int (pe_ix ix_list (pv 1) pe_int (fun _ _ => rfl)) pe_int)))) ?_
    intro t2'
    refine ⟨(by show 1 ≤ sizeLine; decide), fun il hil => ?_⟩
    have s1 := same_upd (o := .lst [V.int 0]) hil
    have e1 : (upd H il (.lst [V.int 0])) il = some (.lst (nv ([] : List Nat).reverse ++ [V.int ((0 : Nat) : Int)])) := upd_same
    generalize upd H il (.lst [V.int 0]) = H1 at s1 e1 ⊢
    refine gname_go ?_
    dsimp only [List.set]
    have sI : ∀ (G : Hp) (o : HO), Same H G → Same H (upd G il o) := fun G o h b ob e => by rw [upd_ne (ne_of_none e hil)]; exact h b ob e
    refine ⟨_, rfl, a, rfl, ⟨_, s1.seq hS⟩, ?_⟩
    refine for_list (K := K) (a := a) (xs := xs.map V.str) (fun i σ Hx => ∃ (m : Nat) (ms : List Nat) (v2 v3 : Option V), σ = [some (.ref a), some (.ref il), v2, v3] ∧ Same H Hx ∧ Hx il = some (.lst (nv ms.reverse ++ [V.int (m : Int)])) ∧ gdT (xs.drop i) (m :: ms) = gdT xs [0] ∧ ms.length ≤ i ∧ i ≤ xs.length)
      ⟨0, [], none, none, rfl, s1, e1, rfl, Nat.le_refl _, Nat.zero_le _⟩ (fun i σ Hx _ ⟨_, _, _, _, _, sx, _⟩ => sx.seq hS) ?_ ?_
    · rintro i y σ Hx hi ⟨m, ms, v2, v3, rfl, sx, eI, hT, hml, hix⟩
      rw [List.getElem?_map] at hi
      obtain ⟨p, hp, rfl⟩ := Option.map_eq_some_iff.mp hi
      obtain ⟨hil', hpe⟩ := List.getElem?_eq_some_iff.mp hp
      rw [List.drop_eq_getElem_cons hil', hpe, gdT.eq_def] at hT
      dsimp only at hT
      have hnl : (nv ms.reverse ++ [V.int (m : Int)]).length = ms.length + 1 := by simp [nv]
      refine gname_go ?_
      dsimp only [List.set]
      refine ⟨_, rfl, rfl, _, rfl, ?_⟩
      by_cases h1 : p = "<"
      · rw [decide_eq_true (show V.str p = V.str "<" by rw [h1])]
        rw [if_pos h1] at hT
        refine iteT ⟨_, rfl, .inl ⟨rfl, _, SqL.of eI⟩, il, _, _, rfl, rfl, eI, small1000 (by omega), ?_⟩
        exact ⟨0, m :: ms, _, _, rfl, sI _ _ sx, by rw [upd_same, nv_snoc]; rfl, hT, by simp; omega, hil'⟩
      · rw [decide_eq_false (show ¬ V.str p = V.str "<" from fun z => h1 (V.str.inj z))]
        rw [if_neg h1] at hT
        refine iteF ⟨_, rfl, rfl, _, rfl, ?_⟩
        by_cases h2 : p = ">"
        · rw [decide_eq_true (show V.str p = V.str ">" by rw [h2])]
          rw [if_pos h2] at hT
          refine iteT ?_
          refine seq_if (fun σ' Hy => σ' = [some (.ref a), some (.ref il), some (.str p), v3] ∧ Hy = Hx ∧ ∃ m' r, ms = m' :: r ∧ ¬ m < 2) ?_ fun hrest => ?_
          · rintro σ' Hy ⟨rfl, rfl, m', r, rfl, h3⟩
            dsimp only at hT
            rw [if_neg h3] at hT
            refine ⟨_, rfl, .inl ⟨rfl, _, SqL.of eI⟩, il, _, V.int (m : Int), rfl, rfl, eI, (by simp), ?_⟩
            rw [List.dropLast_concat, nv_snoc]
            refine gname_go ?_
            dsimp only [List.set]
            refine ⟨_, rfl, _, rfl, il, _, -1, _, rfl, rfl, SqL.of upd_same, atI_last _ _, _, rfl, _, _, rfl, rfl, ?_⟩
            refine ⟨_, rfl, _, rfl, il, _, -1, _, rfl, rfl, upd_same, ix_last _ _, ?_⟩
            rw [set_last]
            exact ⟨m' + m, r, _, _, rfl, sI _ _ (sI _ _ sx), by rw [upd_same]; rfl, hT, by simp at hml; omega, hil'⟩
          · refine if_go _ (dec_or (A := decide (V.int ((nv ms.reverse ++ [V.int (m : Int)]).length : Int) = V.int 1)) (B := decide ((m : Int) < 2)) (fun Q h => ⟨_, rfl, il, _, rfl, .inl (SqL.of eI), rfl, _, rfl, h⟩) (fun Q h => ⟨_, rfl, _, rfl, il, _, -1, _, rfl, rfl, SqL.of eI, atI_last _ _, _, _, rfl, rfl, _, rfl, h⟩)) (fun hA => ?_) (fun hA => ?_)
            · have hf : gdT xs [0] = false := by
                rw [← hT]
                cases ms with
                | nil => rfl
                | cons m' r =>
                  simp only [Bool.or_eq_true, decide_eq_true_eq] at hA
                  rcases hA with hA | hA
                  · rw [hnl] at hA
                    have := V.int.inj hA
                    simp at this
                    omega
                  · dsimp only
                    rw [if_pos (by omega)]
              have := q Hx sx
              rw [hf] at this
              exact this
            · simp only [Bool.or_eq_false_iff, decide_eq_false_iff_not] at hA
              refine hrest _ _ ⟨rfl, rfl, ?_⟩
              cases ms with
              | nil => exact absurd (by rw [hnl]; rfl) hA.1
              | cons m' r => exact ⟨m', r, rfl, by omega⟩
        · rw [decide_eq_false (show ¬ V.str p = V.str ">" from fun z => h2 (V.str.inj z))]
          rw [if_neg h2] at hT
          refine iteF ⟨_, rfl, p, rfl, by rw [← hpe]; exact hxl _ (List.getElem_mem hil'), _, rfl, ?_⟩
          cases h3 : isW p with
          | true =>
            rw [if_pos h3] at hT
            refine iteT ⟨_, rfl, _, rfl, il, _, -1, _, rfl, rfl, SqL.of eI, atI_last _ _, _, _, rfl, rfl, ?_⟩
            refine ⟨_, rfl, _, rfl, il, _, -1, _, rfl, rfl, eI, ix_last _ _, ?_⟩
            rw [set_last]
            exact ⟨m + 1, ms, _, _, rfl, sI _ _ sx, by rw [upd_same]; rfl, hT, by omega, hil'⟩
          | false =>
            rw [if_neg (by rw [h3]; decide)] at hT
            have := q Hx sx
            rw [← hT] at this
            exact iteF this
    · rintro σ Hx ⟨m, ms, v2, v3, rfl, sx, eI, hT, hml, hix⟩
      rw [List.length_map, List.drop_length, gdT.eq_def] at hT
      have hnl : (nv ms.reverse ++ [V.int (m : Int)]).length = ms.length + 1 := by simp [nv]
      have q := q Hx sx
      rw [← hT] at q
      refine ⟨_, rfl, il, _, rfl, .inl (SqL.of eI), rfl, _, rfl, ?_⟩
      cases ms with
      | nil =>
        rw [decide_eq_true (show V.int ((nv ([] : List Nat).reverse ++ [V.int (m : Int)]).length : Int) = V.int 1 from rfl)]
        refine iteT ⟨_, rfl, il, _, 0, V.int (m : Int), rfl, rfl, SqL.of eI, rfl, _, _, rfl, rfl, _, rfl, ?_⟩
        have e1 : decide ((1 : Int) ≤ (m : Int)) = decide (1 ≤ m) := decide_eq_decide.mpr (by omega)
        have e2 : decide ((m : Int) ≤ 60) = decide (m ≤ 60) := decide_eq_decide.mpr (by omega)
        rw [e1]
        have q : Q (.bl (decide (1 ≤ m) && decide (m ≤ 60))) Hx := q
        cases h1 : decide (1 ≤ m) with
        | true =>
          rw [h1] at q
          refine iteT ⟨_, _, rfl, rfl, ?_⟩
          show Q (.bl (decide ((m : Int) ≤ 60))) Hx
          rw [e2]
          exact q
        | false =>
          rw [h1] at q
          exact iteF q
      | cons m' r =>
        rw [decide_eq_false (show ¬ V.int ((nv (m' :: r).reverse ++ [V.int (m : Int)]).length : Int) = V.int 1 from fun z => by
          rw [hnl] at z
          have := V.int.inj z
          simp at this
          omega)]
        exact iteF q
abbrev ns_law_kinds : List Str := ["e", "kinds"]
theorem sc_law_kinds : FnScope ns_law_kinds ["e"] (defScope s_law_kinds) := ⟨rfl, rfl, rfl, by decide +kernel, rfl, by decide +kernel, by decide +kernel⟩
theorem ok_lkinds {cNoText cNoNest cNoOrder cNoWords cNoTurn cNoNumber cTooMany cNoRow : Addr} (D : Def K mg "_law_kinds" s_law_kinds ["e"]) (T : Txt mg) (mNoText : mg "NoText" = some (.ref cNoText)) (mNoNest : mg "NoNest" = some (.ref cNoNest)) (mNoOrder : mg "NoOrder" = some (.ref cNoOrder)) (mNoWords : mg "NoWords" = some (.ref cNoWords)) (mNoTurn : mg "NoTurn" = some (.ref cNoTurn)) (mNoNumber : mg "NoNumber" = some (.ref cNoNumber)) (mTooMany : mg "TooMany" = some (.ref cTooMany)) (mNoRow : mg "NoRow" = some (.ref cNoRow)) :
    HasH P w K mg base 1 "_law_kinds" ["e"] (spKinds K cNoText cNoNest cNoOrder cNoWords cNoTurn cNoNumber cTooMany cNoRow) := by
  refine D.okH sc_law_kinds (fun vs H Q E h => ?_) (fun f cdv A outer s H vs Q E hr h => ?_)
  · obtain ⟨x, D, b1, b2, rfl, _⟩ := h; rfl
  · obtain ⟨x, C, b1, b2, rfl, eX, Z, q⟩ := h
    refine go_c (ps_set (i := 1) sc_law_kinds.nd rfl (Or.inl rfl) (pe_lst (pa_cons (pe_callB (r := rIsX K) call_isx (by rfl) T.b.isi boot_isi (pa_cons (pv 0) (pa_cons (pe_glob (v := .ref cNoText) (by rfl) mNoText rfl) pa_nil))) (pa_cons (pe_callB (r := rIsX K) call_isx (by rfl) T.b.isi boot_isi (pa_cons (pv 0) (pa_cons (pe_glob (v := .ref cNoNest) (by rfl) mNoNest rfl) pa_nil))) (pa_cons (pe_callB (r := rIsX K) call_isx (by rfl) T.b.isi boot_isi (pa_cons (pv 0) (pa_cons (pe_bltn (v := .ty "ValueError") (by rfl) T.ve boot_ve rfl) pa_nil))) pa_nil))))) ?_
    intro t0'
    refine go_c (ps_expr (pe_bm PySem.F.plainAttrs_list PySem.F.slot_list_append PySem.F.type_list_append mt_append (pv 1) (pa_cons (pe_callB (r := rIsX K) call_isx (by rfl) T.b.isi boot_isi (pa_cons (pv 0) (pa_cons (@pe_tup _ _ _ _ _ (@pa_c _ _ _ _ _ (by exact (pe_glob (v := .ref cNoOrder) (by rfl) mNoOrder rfl)) (@pa_c _ _ _ _ _ (by exact (pe_glob (v := .ref cNoWords) (by rfl) mNoWords rfl)) (@pa_c _ _ _ _ _ (by exact (pe_glob (v := .ref cNoTurn) (by rfl) mNoTurn rfl)) (@pa_c _ _ _ _ _ (by exact (pe_glob (v := .ref cNoNumber) (by rfl) mNoNumber rfl)) pa_nil (by rfl)) (by rfl)) (by rfl)) (by rfl))) pa_nil))) pa_nil))) ?_
    intro t1'
    refine go_c (ps_expr (pe_bm PySem.F.plainAttrs_list PySem.F.slot_list_append PySem.F.type_list_append mt_append (pv 1) (pa_cons (pe_callB (r := rIsX K) call_isx (by rfl) T.b.isi boot_isi (pa_cons (pv 0) (pa_cons (pe_tup (pa_cons (pe_glob (v := .ref cTooMany) (by rfl) mTooMany rfl) (pa_cons (pe_glob (v := .ref cNoRow) (by rfl) mNoRow rfl) pa_nil))) pa_nil))) pa_nil))) ?_
    intro t2'
    refine go_1 (ps_ret (pv 1)) ?_
    intro t3'
    refine ⟨_, rfl, x, C, _, b1, rfl, eX, Z.tx, .inr (.inl ⟨cNoText, rfl, Z.k1⟩), ?_⟩
    refine ⟨_, rfl, x, C, _, b2, rfl, eX, Z.tx, .inr (.inl ⟨cNoNest, rfl, Z.k2⟩), ?_⟩
    refine ⟨_, rfl, x, C, _, true, rfl, eX, Z.tx, .inl ⟨"ValueError", rfl, Z.ve⟩, ?_⟩
    refine ⟨(by show 3 ≤ sizeLine; decide), fun k2 hk2 => ?_⟩
    have s1 := same_upd (o := .lst [V.bl b1, V.bl b2, V.bl true]) hk2
    have e1 : (upd H k2 (.lst [V.bl b1, V.bl b2, V.bl true])) k2 = some (.lst [V.bl b1, V.bl b2, V.bl true]) := upd_same
    have eX1 := s1 _ _ eX
    have sK : ∀ (G : Hp) (o : HO), Same H G → Same H (upd G k2 o) := fun G o h b ob e => by rw [upd_ne (ne_of_none e hk2)]; exact h b ob e
    have nx : x ≠ k2 := ne_of_none eX hk2
    generalize upd H k2 (.lst [V.bl b1, V.bl b2, V.bl true]) = H1 at s1 e1 eX1 ⊢
    refine gname_go ?_
    dsimp only [List.set]
    refine ⟨_, rfl, .inl ⟨rfl, _, SqL.of e1⟩, _, rfl, (by show 4 ≤ sizeLine; decide), fun t4 ht4 => ?_⟩
    have s2 := same_upd (o := .tup [V.ref cNoOrder, V.ref cNoWords, V.ref cNoTurn, V.ref cNoNumber]) ht4
    refine ⟨x, C, _, false, rfl, s2 _ _ eX1, Z.tx, .inr (.inr ⟨t4, [cNoOrder, cNoWords, cNoTurn, cNoNumber], rfl, upd_same, Z.a4⟩), ?_⟩
    have e2 := s2 _ _ e1
    have eX2 := s2 _ _ eX1
    have S2 := s1.trans s2
    generalize upd H1 t4 (.tup [V.ref cNoOrder, V.ref cNoWords, V.ref cNoTurn, V.ref cNoNumber]) = H2 at s2 e2 eX2 S2 ⊢
    refine ⟨k2, _, _, rfl, rfl, e2, (by show 3 < sizeLine; decide), ?_⟩
    have e3 : (upd H2 k2 (.lst ([V.bl b1, V.bl b2, V.bl true] ++ [V.bl false]))) k2 = some (.lst [V.bl b1, V.bl b2, V.bl true, V.bl false]) := upd_same
    have eX3 : (upd H2 k2 (.lst ([V.bl b1, V.bl b2, V.bl true] ++ [V.bl false]))) x = some (exO x C) := by rw [upd_ne nx]; exact eX2
    have S3 := sK _ (.lst ([V.bl b1, V.bl b2, V.bl true] ++ [V.bl false])) S2
    generalize upd H2 k2 (.lst ([V.bl b1, V.bl b2, V.bl true] ++ [V.bl false])) = H3 at e3 eX3 S3 ⊢
    refine ⟨_, rfl, .inl ⟨rfl, _, SqL.of e3⟩, _, rfl, (by show 2 ≤ sizeLine; decide), fun t2 ht2 => ?_⟩
    have s4 := same_upd (o := .tup [V.ref cTooMany, V.ref cNoRow]) ht2
    refine ⟨x, C, _, false, rfl, s4 _ _ eX3, Z.tx, .inr (.inr ⟨t2, [cTooMany, cNoRow], rfl, upd_same, Z.a2⟩), ?_⟩
    refine ⟨k2, _, _, rfl, rfl, s4 _ _ e3, (by show 4 < sizeLine; decide), ?_⟩
    exact ⟨_, rfl, q k2 _ hk2 upd_same (sK _ _ (S3.trans s4))⟩
abbrev ns_law_refused : List Str := ["text", "kinds", "e"]
theorem sc_law_refused : FnScope ns_law_refused ["text"] (defScope s_law_refused) := ⟨rfl, rfl, rfl, by decide +kernel, rfl, by decide +kernel, by decide +kernel⟩
theorem ok_refused {cTurnError cNoText cNoNest cNoOrder cNoWords cNoTurn cNoNumber cTooMany cNoRow : Addr} (D : Def K mg "_law_refused" s_law_refused ["text"]) (T : Txt mg) (Z : ExcL K cTurnError cNoText) (ZK : KindOf K cNoText cNoNest cNoOrder cNoWords cNoTurn cNoNumber cTooMany cNoRow cNoText true false)
    (h_seen_words : Has P w K mg base (CXV P w) 3 "seen_words" ["text"] (spSeeA cNoText)) (h_law_kinds : HasH P w K mg base 1 "_law_kinds" ["e"] (spKinds K cNoText cNoNest cNoOrder cNoWords cNoTurn cNoNumber cTooMany cNoRow)) (mTurnError : mg "TurnError" = some (.ref cTurnError)) : Has P w K mg base CX0 4 "_law_refused" ["text"] spRefT := by
  refine D.ok sc_law_refused (fun vs H Q E h => ?_) (fun f cdv A outer s H vs Q E hr h => ?_)
  · obtain ⟨x, rfl, _⟩ := h; rfl
  · obtain ⟨x, rfl, hx, hsl, hbad, q⟩ := h
    refine go_c (ps_set (i := 1) sc_law_refused.nd rfl (Or.inl rfl) (pe_lst pa_nil)) ?_
    intro t0'
    refine go_c (ps_tryH (i := 2) h_seen_words hr (by rfl) rfl rfl (by rfl) mTurnError Z.ct sc_law_refused.nd rfl rfl (pa_cons (pv 0) pa_nil) (fun y => (pss_one (ps_set (i := 1) sc_law_refused.nd rfl (Or.inl rfl) (pe_hasH h_law_kinds (RoomH.mark (hr.mono (j := 1) (by decide))) (by rfl) pass0 (pa_cons (pv 2) pa_nil)))))) ?_
    intro t1'
    refine go_1 (ps_ret (pe_cmpR (op_eqL hr.units0) (pv 1) (pe_lst (pa_cons pe_bl (pa_cons pe_bl (pa_cons pe_bl (pa_cons pe_bl (pa_cons pe_bl pa_nil)))))) (nomark _))) ?_
    intro t2'
    refine ⟨(by show 0 ≤ sizeLine; omega), fun kp hkp => ?_⟩
    have s1 : Same H (upd H kp (.lst [])) := same_upd hkp
    generalize upd H kp (.lst []) = H1 at s1 ⊢
    refine gname_go ?_
    dsimp only [List.set]
    refine ⟨_, rfl, x, rfl, hx, hsl, fun row e ho => (by rw [hbad row e] at ho; cases ho), fun _ H2 s2 => ⟨cNoText, rfl, Z.tx, Z.mr, fun y hy => ?_⟩⟩
    have s3 := same_upd (o := exO y cNoText) hy
    refine ⟨_, rfl, y, cNoText, true, false, rfl, upd_same, ZK, fun p H4 np ep s4 => ?_⟩
    refine gname_go ?_
    dsimp only [List.set]
    refine ⟨_, rfl, (by show 5 ≤ sizeLine; decide), fun d5 hd5 => ?_⟩
    have s5 := same_upd (o := .lst [V.bl true, V.bl false, V.bl true, V.bl false, V.bl false]) hd5
    exact ⟨p, d5, _, _, rfl, rfl, SqL.of (s5 _ _ ep), SqL.of upd_same, .inr ⟨true, rfl, q _ (s1.trans (s2.trans (s3.trans (s4.trans s5))))⟩⟩
abbrev ns_law_unwritten : List Str := ["words", "nest", "way", "kinds", "e"]
theorem sc_law_unwritten : FnScope ns_law_unwritten ["words", "nest", "way"] (defScope s_law_unwritten) := ⟨rfl, rfl, rfl, by decide +kernel, rfl, by decide +kernel, by decide +kernel⟩
theorem ok_unw {cTurnError cNoText cNoNest cNoOrder cNoWords cNoTurn cNoNumber cTooMany cNoRow : Addr} (D : Def K mg "_law_unwritten" s_law_unwritten ["words", "nest", "way"]) (T : Txt mg) (Z : ExcL K cTurnError cNoText) (Z2 : ExcL K cTurnError cNoNest) (ZK : KindOf K cNoText cNoNest cNoOrder cNoWords cNoTurn cNoNumber cTooMany cNoRow cNoText true false) (ZN : KindOf K cNoText cNoNest cNoOrder cNoWords cNoTurn cNoNumber cTooMany cNoRow cNoNest false true)
    (h_write : Has P w K mg base (CXV P w) 63 "write" ["words", "nest"] (spWriteA K cNoNest cNoText)) (h_law_kinds : HasH P w K mg base 1 "_law_kinds" ["e"] (spKinds K cNoText cNoNest cNoOrder cNoWords cNoTurn cNoNumber cTooMany cNoRow)) (mTurnError : mg "TurnError" = some (.ref cTurnError)) : Has P w K mg base CX0 64 "_law_unwritten" ["words", "nest", "way"] (spUnw K) := by
  refine D.ok sc_law_unwritten (fun vs H Q E h => ?_) (fun f cdv A outer s H vs Q E hr h => ?_)
  · obtain ⟨v, l, n, xs, y, rfl, _⟩ := h; rfl
  · obtain ⟨v, l, n, xs, y, rfl, hN, hl, hz, hWV, hc, q⟩ := h
    refine go_c (ps_set (i := 3) sc_law_unwritten.nd rfl (Or.inl rfl) (pe_lst pa_nil)) ?_
    intro t0'
    refine go_c (ps_tryH (i := 4) h_write hr (by rfl) rfl rfl (by rfl) mTurnError Z.ct sc_law_unwritten.nd rfl rfl (pa_cons (pv 0) (pa_cons (pv 1) pa_nil)) (fun y => (pss_one (ps_set (i := 3) sc_law_unwritten.nd rfl (Or.inl rfl) (pe_hasH h_law_kinds (RoomH.mark (hr.mono (j := 1) (by decide))) (by rfl) pass0 (pa_cons (pv 4) pa_nil)))))) ?_
    intro t1'
    refine go_1 (ps_ret (pe_cmpR (op_eqL hr.units0) (pv 3) (pe_lst (pa_cons (pe_cmpR op_eq (pv 2) pe_int (nomark _)) (pa_cons (pe_cmpR op_eq (pv 2) pe_int (nomark _)) (pa_cons pe_bl (pa_cons pe_bl (pa_cons pe_bl pa_nil)))))) (nomark _))) ?_
    intro t2'
    refine ⟨(by show 0 ≤ sizeLine; omega), fun kp hkp => ?_⟩
    have s1 : Same H (upd H kp (.lst [])) := same_upd hkp
    generalize upd H kp (.lst []) = H1 at s1 ⊢
    refine gname_go ?_
    dsimp only [List.set]
    refine ⟨_, rfl, _, rfl, v, l, n, xs, rfl, hN.mono s1, s1.seq hl, hz, fun x hx => (hWV x hx).mono s1, fun ho ws e1 e2 e3 => ?_, fun hbad H2 s2 => ⟨cNoNest, rfl, Z2.tx, Z2.mr, fun z hz => ?_⟩, fun ho hx H2 s2 => ⟨cNoText, rfl, Z.tx, Z.mr, fun z hz => ?_⟩⟩
    · exfalso
      rcases hc with ⟨_, _, h⟩ | ⟨_, h⟩
      · rw [e1, okRV_strs, e3, List.length_map] at h
        rcases h with h | h
        · exact h e2
        · cases h
      · rw [ho] at h; cases h
    · obtain rfl : y = 1 := by
        rcases hc with ⟨_, h, _⟩ | ⟨h, _⟩
        · rw [hbad] at h; cases h
        · exact h
      have s3 := same_upd (o := exO z cNoNest) hz
      refine ⟨_, rfl, z, cNoNest, false, true, rfl, upd_same, ZN, fun p H4 np ep s4 => ?_⟩
      refine gname_go ?_
      dsimp only [List.set]
      refine ⟨_, rfl, _, rfl, rfl, _, rfl, rfl, (by show 5 ≤ sizeLine; decide), fun d5 hd5 => ?_⟩
      have s5 := same_upd (o := .lst [V.bl (decide (V.int 1 = V.int 0)), V.bl (decide (V.int 1 = V.int 1)), V.bl true, V.bl false, V.bl false]) hd5
      exact ⟨p, d5, _, _, rfl, rfl, SqL.of (s5 _ _ ep), SqL.of upd_same, .inr ⟨true, rfl, q _ (s1.trans (s2.trans (s3.trans (s4.trans s5))))⟩⟩
    · obtain rfl : y = 0 := by
        rcases hc with ⟨h, _⟩ | ⟨_, h⟩
        · exact h
        · rw [ho] at h; cases h
      have s3 := same_upd (o := exO z cNoText) hz
      refine ⟨_, rfl, z, cNoText, true, false, rfl, upd_same, ZK, fun p H4 np ep s4 => ?_⟩
      refine gname_go ?_
      dsimp only [List.set]
      refine ⟨_, rfl, _, rfl, rfl, _, rfl, rfl, (by show 5 ≤ sizeLine; decide), fun d5 hd5 => ?_⟩
      have s5 := same_upd (o := .lst [V.bl (decide (V.int 0 = V.int 0)), V.bl (decide (V.int 0 = V.int 1)), V.bl true, V.bl false, V.bl false]) hd5
      exact ⟨p, d5, _, _, rfl, rfl, SqL.of (s5 _ _ ep), SqL.of upd_same, .inr ⟨true, rfl, q _ (s1.trans (s2.trans (s3.trans (s4.trans s5))))⟩⟩
abbrev ns_law_either : List Str := ["text", "parts", "found"]
theorem sc_law_either : FnScope ns_law_either ["text"] (defScope s_law_either) := ⟨rfl, rfl, rfl, by decide +kernel, rfl, by decide +kernel, by decide +kernel⟩
theorem ok_leither {cNoText : Addr} (D : Def K mg "_law_either" s_law_either ["text"]) (T : Txt mg) (h_law_good : Has P w K mg base CX0 2 "_law_good" ["parts"] (spGood K)) (h_law_refused : Has P w K mg base CX0 4 "_law_refused" ["text"] spRefT) (h_seen_words : Has P w K mg base (CXV P w) 3 "seen_words" ["text"] (spSeeA cNoText)) (h_law_turned : Has P w K mg base CX0 1 "_law_turned" ["parts"] (spLTurned K)) : Has P w K mg base CX0 5 "_law_either" ["text"] spEither72 := by
  refine D.ok sc_law_either (fun vs H Q E h => ?_) (fun f cdv A outer s H vs Q E hr h => ?_)
  · obtain ⟨x, rfl, _⟩ := h; rfl
  · obtain ⟨x, rfl, hx, hsl, q⟩ := h
    refine go_c (ps_set (i := 1) sc_law_either.nd rfl (Or.inl rfl) (pe_bm PySem.F.plainAttrs_str PySem.F.slot_str_split PySem.F.type_str_split mt_split (pv 0) (pa_cons pe_str pa_nil))) ?_
    intro t0'
    refine go_c (ps_if (pt_not (pt_val (pe_has h_law_good (hr.mono (by first | decide | omega)) (by rfl) pass0 (pa_cons (pv 1) pa_nil)))) (pss_one (ps_ret (pe_has h_law_refused hr (by rfl) pass0 (pa_cons (pv 0) pa_nil)))) pss_nil) ?_
    intro t1'
    refine go_c (ps_set (i := 2) sc_law_either.nd rfl (Or.inl rfl) (pe_has h_seen_words (hr.mono (by first | decide | omega)) (by rfl) pass0V (pa_cons (pv 0) pa_nil))) ?_
    intro t2'
    refine go_1 (ps_ret (pe_and (pe_callB call_isi (by rfl) T.b.isi boot_isi (pa_cons (pv 2) (pa_cons (pe_bltn (v := .ty "list") (by rfl) T.b.lst boot_ty_list rfl) pa_nil))) (pe_one (pe_cmpR (op_eqL hr.units0) (pv 2) (pe_has h_law_turned (hr.mono (by first | decide | omega)) (by rfl) pass0 (pa_cons (pv 1) pa_nil)) (nomark _))))) ?_
    intro t3'
    refine ⟨_, rfl, rfl, x, " ", rfl, rfl, (by decide +kernel), (by show x.length + 2 ≤ sizeLine; exact line_mil (by omega)), fun pl hpl => ?_⟩
    have hlp : ∀ y ∈ Txt.split x " ", y.length ≤ 10000 := fun y hy => Nat.le_trans (split_len_le hy) hx
    have s1 := same_upd (o := .lst ((Txt.split x " ").map V.str)) hpl
    have ep : (upd H pl (.lst ((Txt.split x " ").map V.str))) pl = some (.lst ((Txt.split x " ").map V.str)) := upd_same
    generalize upd H pl (.lst ((Txt.split x " ").map V.str)) = H1 at s1 ep ⊢
    refine gname_go ?_
    dsimp only [List.set]
    refine ⟨_, rfl, pl, _, rfl, SqL.of ep, by omega, hlp, fun H2 s2 => ⟨_, rfl, ?_⟩⟩
    have S2 := s1.trans s2
    cases hg : gdT (Txt.split x " ") [0] with
    | false =>
      refine iteT ⟨_, rfl, x, rfl, hx, by omega, fun row e => ?_, fun H3 s3 => q _ (S2.trans s3)⟩
      exact bad_see _ [] [0] [] row rfl hg e
    | true =>
      obtain ⟨w, p, r, hseg, k1, k2⟩ := good_seg _ [] [0] (.base .nil) hg
      rw [List.nil_append] at hseg
      refine iteF ⟨_, rfl, x, rfl, hx, by omega, fun row e ho fl H3 nfl efl s3 => ?_, fun hb => ?_⟩
      · rw [hseg.seen] at e
        cases e
        refine gname_go ?_
        dsimp only [List.set]
        refine ⟨_, rfl, _, _, _, _, rfl, .lst efl, kit_same _ _, _, rfl, iteT ?_⟩
        refine ⟨_, rfl, _, rfl, pl, _, w, p, r, rfl, SqL.of (s3 _ _ (s2 _ _ ep)), by omega, hseg, k2, fun tp H4 et s4 => ?_⟩
        exact ⟨fl, tp, _, _, rfl, rfl, SqL.of (s4 _ _ efl), SqL.of et, .inr ⟨true, eqKs_strs _, q _ (S2.trans (s3.trans s4))⟩⟩
      · have := hb _ hseg.seen
        rw [hseg.ok k1 k2] at this
        cases this
abbrev ns_law_strange : List Str := ["cell", "some"]
theorem sc_law_strange : FnScope ns_law_strange ["cell"] (defScope s_law_strange) := ⟨rfl, rfl, rfl, by decide +kernel, rfl, by decide +kernel, by decide +kernel⟩
theorem ok_strange (D : Def K mg "_law_strange" s_law_strange ["cell"]) (T : Txt mg) : Has P w K mg base CX0 1 "_law_strange" ["cell"] spStrange := by
  refine D.ok sc_law_strange (fun vs H Q E h => ?_) (fun f cdv A outer s H vs Q E hr h => ?_)
  · obtain ⟨c, rfl, _⟩ := h; rfl
  · obtain ⟨c, rfl, q⟩ := h
    refine go_c (@ps_set _ _ 1 _ _ _ _ sc_law_strange.nd rfl (Or.inl rfl) (@pe_lst _ _ _ _ (@pa_c _ _ _ _ _ (by exact pe_str) (@pa_c _ _ _ _ _ (by exact pe_str) (@pa_c _ _ _ _ _ (by exact pe_str) (@pa_c _ _ _ _ _ (by exact pe_str) (@pa_c _ _ _ _ _ (by exact pe_str) (@pa_c _ _ _ _ _ (by exact pe_str) (@pa_c _ _ _ _ _ (by exact pe_str) (@pa_c _ _ _ _ _ (by exact pe_str) (@pa_c _ _ _ _ _ (by exact pe_str) (@pa_c _ _ _ _ _ (by exact pe_str) (@pa_c _ _ _ _ _ (by exact pe_str) (@pa_c _ _ _ _ _ (by exact pe_str) (@pa_c _ _ _ _ _ (by exact pe_str) (@pa_c _ _ _ _ _ (by exact pe_str) (@pa_c _ _ _ _ _ (by exact pe_str) (@pa_c _ _ _ _ _ (by exact pe_str) pa_nil (by rfl)) (by rfl)) (by rfl)) (by rfl)) (by rfl)) (by rfl)) (by rfl)) (by rfl)) (by rfl)) (by rfl)) (by rfl)) (by rfl)) (by rfl)) (by rfl)) (by rfl)) (by rfl))) rfl (Or.inl rfl)) ?_
    intro t0'
    refine go_1 (ps_ret (pe_ix ix_list (pv 1) (pe_op op_mod (pv 0) (pe_callB call_len_seq (by rfl) T.b.len PySem.boot_len (pa_cons (pv 1) pa_nil))) (fun _ _ => rfl))) ?_
    intro t1'
    refine ⟨(by show 16 ≤ sizeLine; decide), fun dl hdl => ?_⟩
    refine gname_go ?_
    have key : ∀ z ∈ ([V.str (Str.ofString ""), V.str (Str.ofString "abcdefghi"), V.str (Str.ofString "A"), V.str (Str.ofString "aB"), V.str (Str.ofString "<<"), V.str (Str.ofString "<a"), V.str (Str.ofString "a>"), V.str (Str.ofString "<>"), V.str (Str.ofString "-"), V.str (Str.ofString "a."), V.str (Str.ofString "a_b"), V.str (Str.ofString "+"), V.str (Str.ofString "123456789"), V.str (Str.ofString "a~"), V.str (Str.ofString "a:b"), V.str (Str.ofString "(a")] : List V), ∃ zs : Str, z = V.str zs ∧ zs.length ≤ 9 ∧ 32 ∉ zs.cps.toList ∧ isW zs = false := by
      intro z hz
      simp only [List.mem_cons, List.not_mem_nil, or_false] at hz
      rcases hz with rfl | rfl | rfl | rfl | rfl | rfl | rfl | rfl | rfl | rfl | rfl | rfl | rfl | rfl | rfl | rfl <;> exact ⟨_, rfl, by decide +kernel, by decide +kernel, by decide +kernel⟩
    obtain ⟨z, hz, hat⟩ := at_mod [V.str (Str.ofString ""), V.str (Str.ofString "abcdefghi"), V.str (Str.ofString "A"), V.str (Str.ofString "aB"), V.str (Str.ofString "<<"), V.str (Str.ofString "<a"), V.str (Str.ofString "a>"), V.str (Str.ofString "<>"), V.str (Str.ofString "-"), V.str (Str.ofString "a."), V.str (Str.ofString "a_b"), V.str (Str.ofString "+"), V.str (Str.ofString "123456789"), V.str (Str.ofString "a~"), V.str (Str.ofString "a:b"), V.str (Str.ofString "(a")] c (by decide)
    obtain ⟨zs, rfl, h9, h32, hw0⟩ := key z hz
    exact ⟨_, rfl, _, rfl, _, rfl, dl, _, rfl, .inl (SqL.of upd_same), _, _, rfl, rfl, (by show (0 : Int) < 16; decide), dl, _, _, _, rfl, rfl, SqL.of upd_same, hat, q zs _ h9 h32 hw0 (same_upd hdl)⟩
abbrev ns_law_small : List Str := ["cell", "left", "parts", "k"]
theorem sc_law_small : FnScope ns_law_small ["cell"] (defScope s_law_small) := ⟨rfl, rfl, rfl, by decide +kernel, rfl, by decide +kernel, by decide +kernel⟩
theorem ok_small (D : Def K mg "_law_small" s_law_small ["cell"]) (T : Txt mg) : Has P w K mg base CX0 1 "_law_small" ["cell"] spSmall72 := by
  refine D.ok sc_law_small (fun vs H Q E h => ?_) (fun f cdv A outer s H vs Q E hr h => ?_)
  · obtain ⟨c, rfl, _⟩ := h; rfl
  · obtain ⟨c, rfl, q⟩ := h
    refine go_c (ps_set (i := 1) sc_law_small.nd rfl (Or.inl rfl) (pe_op op_fdiv (pv 0) pe_int)) ?_
    intro t0'
    refine go_c (ps_set (i := 2) sc_law_small.nd rfl (Or.inl rfl) (pe_lst pa_nil)) ?_
    intro t1'
    refine go_c (ps_for PassesOwn.never rfl (pi_range1 rfl T.b.rng (pa_cons (pe_op op_mod (pv 0) pe_int) pa_nil)) (pg_name (i := 3) sc_law_small.nd rfl (Or.inl rfl)) (pss_cons (ps_expr (pe_bm PySem.F.plainAttrs_list PySem.F.slot_list_append PySem.F.type_list_append mt_append (pv 2) (pa_cons (pe_ix ix_list (pe_lst (pa_cons pe_str (pa_cons pe_str (pa_cons pe_str (pa_cons pe_str (pa_cons pe_str pa_nil)))))) (pe_op op_mod (pv 1) pe_int) (fun _ _ => rfl)) pa_nil)))
      (pss_one (ps_set (i := 1) sc_law_small.nd rfl (Or.inl rfl) (pe_op op_fdiv (pv 1) pe_int))))) ?_
    intro t2'
    refine go_1 (ps_ret (pe_bm PySem.F.plainAttrs_str PySem.F.slot_str_join PySem.F.type_str_join mt_join pe_str (pa_cons (pv 2) pa_nil))) ?_
    intro t3'
    refine ⟨_, rfl, _, _, rfl, rfl, ⟨by decide, by decide⟩, ?_⟩
    refine gname_go ?_
    dsimp only [List.set]
    refine ⟨(by show 0 ≤ sizeLine; omega), fun pl hpl => ?_⟩
    have s1 := same_upd (o := .lst []) hpl
    have e1 : (upd H pl (.lst [])) pl = some (.lst (([] : List Str).map V.str)) := upd_same
    have sP : ∀ (G : Hp) (o : HO), Same H G → Same H (upd G pl o) := fun G o h b ob e => by rw [upd_ne (ne_of_none e hpl)]; exact h b ob e
    generalize upd H pl (.lst []) = H1 at s1 e1 ⊢
    refine gname_go ?_
    dsimp only [List.set]
    have m0 := Int.emod_nonneg c (show (9 : Int) ≠ 0 by decide)
    have m1 := Int.emod_lt_of_pos c (show (0 : Int) < 9 by decide)
    obtain ⟨n, hn⟩ : ∃ n : Nat, c % 9 = (n : Int) := ⟨(c % 9).toNat, by omega⟩
    refine ⟨_, rfl, _, _, rfl, rfl, (by show (0 : Int) < 9; decide), (n : Int), (by show [V.int (c % 9)] = _; rw [hn]), by omega, by omega, ?_⟩
    rw [show ((n : Nat) : Int).toNat = n by omega]
    refine for_range (n := n) (lo := 0) (fun i σ Hx => ∃ (xs : List Str) (l : Int) (v3 : Option V), σ = [some (.int c), some (.int l), some (.ref pl), v3] ∧ Same H Hx ∧ Hx pl = some (.lst (xs.map V.str)) ∧ xs.length = i ∧ pc9 xs) ⟨[], _, none, rfl, s1, e1, rfl, fun x hx => by cases hx⟩ ?_ ?_
    · rintro i σ Hx hi ⟨xs, l, v3, rfl, sx, eP, hxl, hp⟩
      refine gname_go ?_
      dsimp only [List.set]
      refine ⟨_, rfl, .inl ⟨rfl, _, SqL.of eP⟩, (by show 5 ≤ sizeLine; decide), fun dl hdl => ?_⟩
      have t1 := same_upd (o := .lst [V.str (Str.ofString "<"), V.str (Str.ofString ">"), V.str (Str.ofString "a"), V.str (Str.ofString "b"), V.str (Str.ofString "a0")]) hdl
      obtain ⟨z, hz, hat⟩ := at_mod [V.str (Str.ofString "<"), V.str (Str.ofString ">"), V.str (Str.ofString "a"), V.str (Str.ofString "b"), V.str (Str.ofString "a0")] l (by decide)
      obtain ⟨zs, rfl, hz9, hz32⟩ : ∃ zs : Str, z = V.str zs ∧ zs.length ≤ 9 ∧ 32 ∉ zs.cps.toList := by
        simp only [List.mem_cons, List.not_mem_nil, or_false] at hz
        rcases hz with rfl | rfl | rfl | rfl | rfl <;> exact ⟨_, rfl, by decide +kernel, by decide +kernel⟩
      refine ⟨_, rfl, _, _, rfl, rfl, (by show (0 : Int) < 5; decide), dl, _, l % 5, _, rfl, rfl, SqL.of upd_same, hat, ?_⟩
      refine ⟨pl, _, _, rfl, rfl, t1 _ _ eP, small1000 (by rw [List.length_map]; omega), ?_⟩
      refine ⟨_, rfl, _, _, rfl, rfl, ⟨by decide, by decide⟩, ?_⟩
      refine ⟨xs ++ [zs], _, _, rfl, sP _ _ (sx.trans t1), by rw [upd_same, List.map_append]; rfl, by simp; omega, hp.app fun x hx => ?_⟩
      rw [List.mem_singleton.mp hx]
      exact ⟨hz9, hz32⟩
    · rintro σ Hx ⟨xs, l, v3, rfl, sx, eP, hxl, hp⟩
      obtain ⟨g1, g2⟩ := hp.text (by omega)
      exact ⟨rfl, _, rfl, " ", pl, xs, rfl, rfl, SqL.of eP, hp.joins (by omega), q _ _ g1 g2 sx⟩
abbrev ns_law_spoilt : List Str := ["parts", "cell", "at", "kind", "new"]
theorem sc_law_spoilt : FnScope ns_law_spoilt ["parts", "cell"] (defScope s_law_spoilt) := ⟨rfl, rfl, rfl, by decide +kernel, rfl, by decide +kernel, by decide +kernel⟩
theorem ok_spoilt (D : Def K mg "_law_spoilt" s_law_spoilt ["parts", "cell"]) (T : Txt mg) (h_law_word : Has P w K mg base CX0 1 "_law_word" ["cell"] spWord71) (h_law_strange : Has P w K mg base CX0 1 "_law_strange" ["cell"] spStrange) : Has P w K mg base CX0 2 "_law_spoilt" ["parts", "cell"] (spSpoilt72 K) := by
  refine D.ok sc_law_spoilt (fun vs H Q E h => ?_) (fun f cdv A outer s H vs Q E hr h => ?_)
  · obtain ⟨a, xs, c, rfl, _⟩ := h; rfl
  · obtain ⟨a, xs, c, rfl, hS, hl, hp, q⟩ := h
    refine go_c (ps_set (i := 2) sc_law_spoilt.nd rfl (Or.inl rfl) (pe_op op_mod (pe_op op_fdiv (pv 1) pe_int) (pe_op op_add (pe_callB call_len_seq (by rfl) T.b.len PySem.boot_len (pa_cons (pv 0) pa_nil)) pe_int))) ?_
    intro t0'
    refine go_c (ps_set (i := 3) sc_law_spoilt.nd rfl (Or.inl rfl) (pe_op op_mod (pe_op op_fdiv (pv 1) pe_int) pe_int)) ?_
    intro t1'
    refine go_c (ps_set (i := 4) sc_law_spoilt.nd rfl (Or.inl rfl) (pe_ix ix_list (@pe_lst _ _ _ _ (@pa_c _ _ _ _ _ (by exact (pe_lst (pa_cons pe_str pa_nil))) (@pa_c _ _ _ _ _ (by exact (pe_lst (pa_cons pe_str pa_nil))) (@pa_c _ _ _ _ _ (by exact (pe_lst (pa_cons (pe_has h_law_word hr (by rfl) pass0 (pa_cons (pe_op op_fdiv (pv 1) pe_int) pa_nil)) pa_nil))) (@pa_c _ _ _ _ _ (by exact (pe_lst (pa_cons pe_str (pa_cons pe_str pa_nil)))) (@pa_c _ _ _ _ _ (by exact (pe_lst (pa_cons pe_str (pa_cons pe_str pa_nil)))) (@pa_c _ _ _ _ _ (by exact (pe_lst (pa_cons (pe_has h_law_strange hr (by rfl) pass0 (pa_cons (pe_op op_fdiv (pv 1) pe_int) pa_nil)) pa_nil))) pa_nil (by rfl)) (by rfl)) (by rfl)) (by rfl)) (by rfl)) (by rfl))) (pv 3) (fun _ _ => rfl))) ?_
    intro t2'
    refine go_c (ps_if (pt_cmpR op_eq (pe_op op_mod (pv 1) pe_int) pe_int (nomark _)) (pss_one (ps_ret (pe_op op_cat (pe_op op_cat (pe_slice sl_list (pv 0) po_none (po_some (pv 2))) (pv 4)) (pe_slice sl_list (pv 0) (po_some (pv 2)) po_none)))) pss_nil) ?_
    intro t3'
    refine go_c (ps_if (pt_cmpR op_eq (pe_op op_mod (pv 1) pe_int) pe_int (nomark _)) (pss_one (ps_ret (pe_op op_cat (pe_op op_cat (pe_slice sl_list (pv 0) po_none (po_some (pv 2))) (pv 4)) (pe_slice sl_list (pv 0) (po_some (pe_op op_add (pv 2) pe_int)) po_none)))) pss_nil) ?_
    intro t4'
    refine go_1 (ps_ret (pe_op op_cat (pe_slice sl_list (pv 0) po_none (po_some (pv 2))) (pe_slice sl_list (pv 0) (po_some (pe_op op_add (pv 2) pe_int)) po_none))) ?_
    intro t5'
    have hlm : (xs.map V.str).length = xs.length := List.length_map ..
    have m0 := Int.emod_nonneg (c / 3) (show ((xs.length : Int) + 1) ≠ 0 by omega)
    have m1 := Int.emod_lt_of_pos (c / 3) (show (0 : Int) < (xs.length : Int) + 1 by omega)
    obtain ⟨at', hat'⟩ : ∃ n : Nat, c / 3 % ((xs.length : Int) + 1) = (n : Int) := ⟨(c / 3 % ((xs.length : Int) + 1)).toNat, by omega⟩
    refine ⟨_, rfl, _, _, rfl, rfl, ⟨by decide, by decide⟩, _, rfl, a, _, rfl, .inl hS, _, _, rfl, rfl, _, _, rfl, rfl, (by show (0 : Int) < ((xs.map V.str).length : Int) + 1; omega), ?_⟩
    refine gname_go ?_
    rw [hlm]
    dsimp only
    rw [hat']
    refine ⟨_, rfl, _, _, rfl, rfl, ⟨by decide, by decide⟩, _, _, rfl, rfl, (by show (0 : Int) < 6; decide), ?_⟩
    refine gname_go ?_
    dsimp only [List.set]
    refine ⟨(by show 1 ≤ sizeLine; decide), fun l0 h0 => ⟨(by show 1 ≤ sizeLine; decide), fun l1 h1 => ⟨_, rfl, _, _, rfl, rfl, ⟨by decide, by decide⟩, _, rfl, fun wd hwd => ⟨(by show 1 ≤ sizeLine; decide), fun l2 h2 => ⟨(by show 2 ≤ sizeLine; decide), fun l3 h3 => ⟨(by show 2 ≤ sizeLine; decide), fun l4 h4 => ?_⟩⟩⟩⟩⟩⟩
    have s0 := same_upd (o := .lst [V.str (Str.ofString "<")]) h0
    have s1 := same_upd (o := .lst [V.str (Str.ofString ">")]) h1
    have s2 := same_upd (o := .lst [V.str wd]) h2
    have s3 := same_upd (o := .lst [V.str (Str.ofString "<"), V.str (Str.ofString ">")]) h3
    have s4 := same_upd (o := .lst [V.str (Str.ofString ">"), V.str (Str.ofString "<")]) h4
    have S1 := s1.trans (s2.trans (s3.trans s4))
    have S2 := s2.trans (s3.trans s4)
    have S3 := s3.trans s4
    have E0 := S1 _ _ (show (upd H l0 (.lst [V.str (Str.ofString "<")])) l0 = some (.lst ([("<" : Str)].map V.str)) from upd_same)
    have E1 := S2 _ _ (show (upd _ l1 (.lst [V.str (Str.ofString ">")])) l1 = some (.lst ([(">" : Str)].map V.str)) from upd_same)
    have E2 := S3 _ _ (show (upd _ l2 (.lst [V.str wd])) l2 = some (.lst ([wd].map V.str)) from upd_same)
    have E3 := s4 _ _ (show (upd _ l3 (.lst [V.str (Str.ofString "<"), V.str (Str.ofString ">")])) l3 = some (.lst ([("<" : Str), (">" : Str)].map V.str)) from upd_same)
    have E4 : (upd (upd (upd (upd (upd H l0 (.lst [V.str (Str.ofString "<")])) l1 (.lst [V.str (Str.ofString ">")])) l2 (.lst [V.str wd])) l3 (.lst [V.str (Str.ofString "<"), V.str (Str.ofString ">")])) l4 (.lst [V.str (Str.ofString ">"), V.str (Str.ofString "<")])) l4 = some (.lst ([(">" : Str), ("<" : Str)].map V.str)) := upd_same
    have S0 := s0.trans S1
    generalize upd (upd (upd (upd (upd H l0 (.lst [V.str (Str.ofString "<")])) l1 (.lst [V.str (Str.ofString ">")])) l2 (.lst [V.str wd])) l3 (.lst [V.str (Str.ofString "<"), V.str (Str.ofString ">")])) l4 (.lst [V.str (Str.ofString ">"), V.str (Str.ofString "<")]) = H4 at E0 E1 E2 E3 E4 S0 ⊢
    refine ⟨_, rfl, _, _, rfl, rfl, ⟨by decide, by decide⟩, _, rfl, fun st H5 st9 st32 _ s5 => ⟨(by show 1 ≤ sizeLine; decide), fun l5 h5 => ⟨(by show 6 ≤ sizeLine; decide), fun lo hlo => ?_⟩⟩⟩
    have s6 := same_upd (o := .lst [V.str st]) h5
    have s7 := same_upd (o := .lst [V.ref l0, V.ref l1, V.ref l2, V.ref l3, V.ref l4, V.ref l5]) hlo
    have E5 := s7 _ _ (show (upd H5 l5 (.lst [V.str st])) l5 = some (.lst ([st].map V.str)) from upd_same)
    have Elo : (upd (upd H5 l5 (.lst [V.str st])) lo (.lst [V.ref l0, V.ref l1, V.ref l2, V.ref l3, V.ref l4, V.ref l5])) lo = some (.lst [V.ref l0, V.ref l1, V.ref l2, V.ref l3, V.ref l4, V.ref l5]) := upd_same
    have S57 := s5.trans (s6.trans s7)
    generalize upd (upd H5 l5 (.lst [V.str st])) lo (.lst [V.ref l0, V.ref l1, V.ref l2, V.ref l3, V.ref l4, V.ref l5]) = H7 at E5 Elo S57 ⊢
    obtain ⟨v, hv, hat⟩ := at_mod [V.ref l0, V.ref l1, V.ref l2, V.ref l3, V.ref l4, V.ref l5] (c / 400) (by simp)
    have mk9 : pc9 [("<" : Str), (">" : Str)] := fun x hx => by
      rcases List.mem_cons.mp hx with rfl | hx
      · exact ⟨by decide +kernel, by decide +kernel⟩
      · rw [List.mem_singleton.mp hx]; exact ⟨by decide +kernel, by decide +kernel⟩
    have sub : ∀ {ys : List Str}, (∀ y ∈ ys, y ∈ [("<" : Str), (">" : Str)]) → pc9 ys := fun h x hx => mk9 x (h x hx)
    obtain ⟨nl, ys, rfl, enl, hyl, hy9⟩ : ∃ (nl : Addr) (ys : List Str), v = V.ref nl ∧ H7 nl = some (.lst (ys.map V.str)) ∧ ys.length ≤ 2 ∧ pc9 ys := by
      simp only [List.mem_cons, List.not_mem_nil, or_false] at hv
      rcases hv with rfl | rfl | rfl | rfl | rfl | rfl
      · exact ⟨_, _, rfl, S57 _ _ E0, by decide, sub (by simp)⟩
      · exact ⟨_, _, rfl, S57 _ _ E1, by decide, sub (by simp)⟩
      · exact ⟨_, _, rfl, S57 _ _ E2, by simp, fun x hx => by rw [List.mem_singleton.mp hx]; exact ⟨by have := (isW_len hwd).2; omega, isW_free hwd (by decide +kernel)⟩⟩
      · exact ⟨_, _, rfl, S57 _ _ E3, by decide, mk9⟩
      · exact ⟨_, _, rfl, S57 _ _ E4, by decide, sub (by simp)⟩
      · exact ⟨_, _, rfl, E5, by simp, fun x hx => by rw [List.mem_singleton.mp hx]; exact ⟨st9, st32⟩⟩
    refine ⟨_, rfl, lo, _, _, _, rfl, rfl, SqL.of Elo, hat, ?_⟩
    refine gname_go ?_
    dsimp only [List.set]
    have S7 := S0.trans S57
    have hal : at' ≤ xs.length := by omega
    have p1 : pc9 (xs.take at') := fun x hx => hp x (List.mem_of_mem_take hx)
    have p2 : ∀ k, pc9 (xs.drop k) := fun k x hx => hp x (List.mem_of_mem_drop hx)
    refine ⟨_, rfl, _, _, rfl, rfl, (by show (0 : Int) < 3; decide), rfl, _, rfl, ?_⟩
    have cutH : cutV (xs.map V.str) none (some (at' : Int)) = (xs.take at').map V.str := by rw [cutV_head _ at' (by omega), List.map_take]
    have cutE : ∀ k : Nat, cutV (xs.map V.str) (some (k : Int)) none = (xs.drop k).map V.str := fun k => by rw [cutEnd, List.map_drop]
    by_cases c0 : V.int (c % 3) = V.int 0
    · rw [decide_eq_true c0]
      refine iteT ⟨_, rfl, _, rfl, (at' : Int), rfl, a, _, rfl, S7.seq hS, fun t1 ht1 => ?_⟩
      rw [cutH]
      have u1 := same_upd (o := .lst ((xs.take at').map V.str)) ht1
      refine ⟨_, rfl, t1, nl, _, _, rfl, rfl, upd_same, u1 _ _ enl, line1000 (by simp; omega), fun t2 ht2 => ?_⟩
      have u2 := u1.trans (same_upd (o := .lst ((xs.take at').map V.str ++ ys.map V.str)) ht2)
      have e2 : (upd (upd H7 t1 (.lst ((xs.take at').map V.str))) t2 (.lst ((xs.take at').map V.str ++ ys.map V.str))) t2 = some (.lst ((xs.take at').map V.str ++ ys.map V.str)) := upd_same
      generalize upd (upd H7 t1 (.lst ((xs.take at').map V.str))) t2 (.lst ((xs.take at').map V.str ++ ys.map V.str)) = G2 at u2 e2 ⊢
      refine ⟨_, rfl, _, rfl, (at' : Int), rfl, a, _, rfl, (S7.trans u2).seq hS, fun t3 ht3 => ?_⟩
      rw [cutE]
      have u3 := same_upd (o := .lst ((xs.drop at').map V.str)) ht3
      refine ⟨t2, t3, _, _, rfl, rfl, u3 _ _ e2, upd_same, line1000 (by simp; omega), fun t4 ht4 => ?_⟩
      exact q t4 (xs.take at' ++ ys ++ xs.drop at') _ (by rw [upd_same]; simp) (by simp; omega) ((p1.app hy9).app (p2 _)) (S7.trans (u2.trans (u3.trans (same_upd ht4))))
    · rw [decide_eq_false c0]
      refine iteF ⟨_, rfl, _, _, rfl, rfl, (by show (0 : Int) < 3; decide), rfl, _, rfl, ?_⟩
      by_cases c1 : V.int (c % 3) = V.int 1
      · rw [decide_eq_true c1]
        refine iteT ⟨_, rfl, _, rfl, (at' : Int), rfl, a, _, rfl, S7.seq hS, fun t1 ht1 => ?_⟩
        rw [cutH]
        have u1 := same_upd (o := .lst ((xs.take at').map V.str)) ht1
        refine ⟨_, rfl, t1, nl, _, _, rfl, rfl, upd_same, u1 _ _ enl, line1000 (by simp; omega), fun t2 ht2 => ?_⟩
        have u2 := u1.trans (same_upd (o := .lst ((xs.take at').map V.str ++ ys.map V.str)) ht2)
        have e2 : (upd (upd H7 t1 (.lst ((xs.take at').map V.str))) t2 (.lst ((xs.take at').map V.str ++ ys.map V.str))) t2 = some (.lst ((xs.take at').map V.str ++ ys.map V.str)) := upd_same
        generalize upd (upd H7 t1 (.lst ((xs.take at').map V.str))) t2 (.lst ((xs.take at').map V.str ++ ys.map V.str)) = G2 at u2 e2 ⊢
        refine ⟨_, rfl, _, rfl, _, _, rfl, rfl, ((at' + 1 : Nat) : Int), rfl, a, _, rfl, (S7.trans u2).seq hS, fun t3 ht3 => ?_⟩
        rw [cutE]
        have u3 := same_upd (o := .lst ((xs.drop (at' + 1)).map V.str)) ht3
        refine ⟨t2, t3, _, _, rfl, rfl, u3 _ _ e2, upd_same, line1000 (by simp; omega), fun t4 ht4 => ?_⟩
        exact q t4 (xs.take at' ++ ys ++ xs.drop (at' + 1)) _ (by rw [upd_same]; simp) (by simp; omega) ((p1.app hy9).app (p2 _)) (S7.trans (u2.trans (u3.trans (same_upd ht4))))
      · rw [decide_eq_false c1]
        refine iteF ⟨_, rfl, _, rfl, (at' : Int), rfl, a, _, rfl, S7.seq hS, fun t1 ht1 => ?_⟩
        rw [cutH]
        have u1 := same_upd (o := .lst ((xs.take at').map V.str)) ht1
        refine ⟨_, rfl, _, rfl, _, _, rfl, rfl, ((at' + 1 : Nat) : Int), rfl, a, _, rfl, (S7.trans u1).seq hS, fun t3 ht3 => ?_⟩
        rw [cutE]
        have u3 := same_upd (o := .lst ((xs.drop (at' + 1)).map V.str)) ht3
        refine ⟨t1, t3, _, _, rfl, rfl, u3 _ _ upd_same, upd_same, line1000 (by simp; omega), fun t4 ht4 => ?_⟩
        exact q t4 (xs.take at' ++ xs.drop (at' + 1)) _ (by rw [upd_same]; simp) (by simp; omega) (p1.app (p2 _)) (S7.trans (u1.trans (u3.trans (same_upd ht4))))
theorem scStir : FnScope ["cell", "k", "number"] ["cell", "k"] (defScope sStir) := ⟨rfl, rfl, rfl, by decide +kernel, rfl, by decide +kernel, by decide +kernel⟩
theorem ok_stir {f : Addr} {fd : FuncData} (F : Fun K "_law_stir" "_law_stir" sStir f fd) : FnOk P w K mg base CX0 1 f fd ["cell", "k"] spStir := by
  refine F.ok scStir (fun vs H Q E h => ?_) (fun cdv A outer s H vs Q E hr h => ?_)
  · obtain ⟨c, k, rfl, _⟩ := h; rfl
  · obtain ⟨c, k, rfl, q⟩ := h
    refine ⟨_, pss_cons (ps_set (i := 2) scStir.nd rfl (Or.inl rfl) (pe_op op_mod (pe_op op_mul (pe_op op_add (pe_op op_add (pe_op op_mod (pv 0) pe_int) (pe_op op_mul pe_int (pv 1))) pe_int) pe_int) pe_int))
      (pss_cons (ps_set (i := 2) scStir.nd rfl (Or.inl rfl) (pe_op op_mod (pe_op op_mul (pv 2) (pv 2)) pe_int))
      (pss_one (ps_ret (pe_op op_mod (pe_op op_mul (pv 2) pe_int) pe_int)))), ?_⟩
    refine ⟨_, rfl, _, _, rfl, rfl, (by show (0 : Int) < 2147483629; decide), _, rfl, _, _, rfl, rfl, .inl ⟨by decide, by decide⟩, _, _, rfl, rfl, _, _, rfl, rfl, _, _, rfl, rfl, .inr ⟨by decide, by decide⟩, _, _, rfl, rfl, (by show (0 : Int) < 2147483647; decide), ?_⟩
    refine ⟨_, rfl, _, rfl, _, _, rfl, rfl, .inl ⟨by omega, by omega⟩, _, _, rfl, rfl, (by show (0 : Int) < 2147483629; decide), ?_⟩
    exact ⟨_, rfl, _, _, rfl, rfl, .inr ⟨by decide, by decide⟩, _, _, rfl, rfl, (by show (0 : Int) < 2147483563; decide), q _⟩
theorem scCell : FnScope ["script", "k"] ["script", "k"] (defScope sCell) := ⟨rfl, rfl, rfl, by decide +kernel, rfl, by decide +kernel, by decide +kernel⟩
theorem ok_cell {f fS : Addr} {fd fdS : FuncData} (F : Fun K "_law_cell" "_law_cell" sCell f fd) (T : Txt mg) (FS : Fun K "_law_stir" "_law_stir" sStir fS fdS) (mS : mg "_law_stir" = some (.ref fS)) (bS : Binds K fdS ["cell", "k"] []) :
    FnOk P w K mg base CX0 2 f fd ["script", "k"] (spCell K) := by
  have GS : FnOk P w K mg base CX0 1 fS fdS ["cell", "k"] spStir := ok_stir FS
  refine F.ok scCell (fun vs H Q E h => ?_) (fun cdv A outer s H vs Q E hr h => ?_)
  · obtain ⟨a, ns, k, rfl, _⟩ := h; rfl
  · obtain ⟨a, ns, k, rfl, hS, hl, h0, h1, q⟩ := h
    refine ⟨_, pss_cons (ps_if (pt_cmpR op_lt (pv 1) (pe_callB call_len_seq (by rfl) T.b.len PySem.boot_len (pa_cons (pv 0) pa_nil)) (nomark _)) (pss_one (ps_ret (pe_ix ix_list (pv 0) (pv 1) (fun _ _ => rfl)))) pss_nil)
      (pss_cons (ps_if (pt_cmpR op_eq (pe_callB call_len_seq (by rfl) T.b.len PySem.boot_len (pa_cons (pv 0) pa_nil)) pe_int (nomark _)) (pss_one (ps_ret (pe_call GS hr rfl mS FS.kp bS .nil pass0 (pa_cons (pe_op op_mul (pv 1) (pv 1)) (pa_cons (pv 1) pa_nil))))) pss_nil)
      (pss_one (ps_ret (pe_call GS hr rfl mS FS.kp bS .nil pass0 (pa_cons (pe_ix ix_list (pv 0) (pe_op op_mod (pv 1) (pe_callB call_len_seq (by rfl) T.b.len PySem.boot_len (pa_cons (pv 0) pa_nil))) (fun _ _ => rfl)) (pa_cons (pv 1) pa_nil)))))), ?_⟩
    have hlen : ((ns.map V.int).length : Int) = ns.length := by rw [List.length_map]
    refine ⟨_, rfl, _, rfl, a, _, rfl, .inl hS, _, _, rfl, rfl, _, rfl, ?_⟩
    refine ite2 (fun c => ?_) (fun c => ?_)
    · have c : k < (ns.length : Int) := by rw [← hlen]; simpa using c
      have hk : k.toNat < ns.length := by omega
      refine ⟨_, rfl, _, rfl, a, _, k, V.int ns[k.toNat], rfl, rfl, hS, ?_, q _⟩
      have := at_ints (ns := ns) (j := k.toNat) (z := ns[k.toNat]) (by simp [hk])
      rw [show ((k.toNat : Nat) : Int) = k by omega] at this
      exact this
    · refine ⟨_, rfl, a, _, rfl, .inl hS, rfl, _, rfl, ?_⟩
      refine ite2 (fun c2 => ?_) (fun c2 => ?_)
      · exact ⟨_, rfl, _, rfl, _, _, rfl, rfl, .inl ⟨by omega, by omega⟩, _, rfl, _, _, rfl, q⟩
      · have hpos : 0 < ns.length := by
          cases e : ns with
          | nil => subst e; exact absurd c2 (by simp)
          | cons _ _ => simp
        have hm0 : 0 ≤ k % (ns.length : Int) := Int.emod_nonneg _ (by omega)
        have hm1 : k % (ns.length : Int) < ns.length := Int.emod_lt_of_pos _ (by omega)
        have hk : (k % (ns.length : Int)).toNat < ns.length := by omega
        refine ⟨_, rfl, _, rfl, _, rfl, a, _, rfl, .inl hS, _, _, rfl, rfl, (by rw [hlen]; omega), a, _, k % ((ns.map V.int).length : Int), V.int ns[(k % (ns.length : Int)).toNat], rfl, rfl, hS, ?_, _, rfl, _, _, rfl, q⟩
        have := at_ints (ns := ns) (j := (k % (ns.length : Int)).toNat) (z := ns[(k % (ns.length : Int)).toNat]) (by simp [hk])
        rw [show (((k % (ns.length : Int)).toNat : Nat) : Int) = k % (ns.length : Int) by omega] at this
        rw [hlen]
        exact this
theorem has_cell (D0 : Def K mg "_law_cell" s_law_cell ["script", "k"]) (D1 : Def K mg "_law_stir" s_law_stir ["cell", "k"]) (T : Txt mg) : Has P w K mg base CX0 2 "_law_cell" ["script", "k"] (spCell K) := by
  obtain ⟨f0, fd0, F0, k0, m0, b0⟩ := D0.ex
  obtain ⟨f1, fd1, F1, k1, m1, b1⟩ := D1.ex
  exact ⟨f0, fd0, ok_cell F0 T F1 m1 b1, k0, m0, b0⟩
def spLaw (K : PySem.W.Frag) : Sp := spLawOf K
abbrev ns_law : List Str := ["script", "parts", "k", "cell", "many", "pairs", "nest", "words", "at", "thing", "bad", "handed", "wrong"]
theorem sc_law : FnScope ns_law ["script"] (defScope s_law) := ⟨rfl, rfl, rfl, by decide +kernel, rfl, by decide +kernel, by decide +kernel⟩
def cp_law_0 (s : Stmt) : Scope := match (defBody s).getD 9 (.Pass ⟨0, 0, 0, 0⟩) with
  | .Assign _ (.ListComp _ _ sc _) _ => sc
  | _ => defScope s
theorem cs_law_0 : CScope (defScope s_law) (cp_law_0 s_law) "k" ["k", "script"] ns_law [0] := cs_of (by decide +kernel)
theorem ok_law {cNoText cNoNest : Addr} {f : Addr} {fd : FuncData} (F : Fun K "law" "law" s_law f fd) (T : Txt mg) (h_law_cell : Has P w K mg base CX0 2 "_law_cell" ["script", "k"] (spCell K)) (h_law_word : Has P w K mg base CX0 1 "_law_word" ["cell"] spWord71) (h_law_marked : Has P w K mg base CX0 2 "_law_marked" ["script", "first", "many"] (spLMarked K)) (h_law_either : Has P w K mg base CX0 5 "_law_either" ["text"] spEither72) (h_law_spoilt : Has P w K mg base CX0 2 "_law_spoilt" ["parts", "cell"] (spSpoilt72 K)) (h_law_small : Has P w K mg base CX0 1 "_law_small" ["cell"] spSmall72)
    (h_seen_words : Has P w K mg base (CXV P w) 3 "seen_words" ["text"] (spSeeA cNoText)) (h_law_refused : Has P w K mg base CX0 4 "_law_refused" ["text"] spRefT) (h_law_strange : Has P w K mg base CX0 1 "_law_strange" ["cell"] spStrange) (h_law_unwritten : Has P w K mg base CX0 64 "_law_unwritten" ["words", "nest", "way"] (spUnw K)) (h_write : Has P w K mg base (CXV P w) 63 "write" ["words", "nest"] (spWriteA K cNoNest cNoText)) : FnOk P w K mg base CX0 66 f fd ["script"] (spLaw K) := by
  refine F.ok sc_law (fun vs H Q E h => ?_) (fun cdv A outer s H vs Q E hr h => ?_)
  · obtain ⟨a, ns, rfl, _⟩ := h; rfl
  · obtain ⟨a, ns, rfl, hS, hl, q⟩ := h
    refine go_c (ps_set (i := 1) sc_law.nd rfl (Or.inl rfl) (pe_has h_law_marked (hr.mono (by first | decide | omega)) (by rfl) pass0 (pa_cons (pv 0) (pa_cons pe_int (pa_cons pe_int pa_nil))))) ?_
    intro t0'
    refine go_c (ps_if (pt_not (pt_val (pe_has h_law_either (hr.mono (by first | decide | omega)) (by rfl) pass0 (pa_cons (pe_bm PySem.F.plainAttrs_str PySem.F.slot_str_join PySem.F.type_str_join mt_join pe_str (pa_cons (pv 1) pa_nil)) pa_nil)))) (pss_one (ps_ret pe_bl)) pss_nil) ?_
    intro t1'
    refine go_c (ps_for PassesOwn.never rfl (pi_range2 rfl T.b.rng (pa_cons pe_int (pa_cons pe_int pa_nil))) (pg_name (i := 2) sc_law.nd rfl (Or.inl rfl)) (pss_cons (ps_set (i := 3) sc_law.nd rfl (Or.inl rfl) (pe_has h_law_cell (hr.mono (by first | decide | omega)) (by rfl) pass0 (pa_cons (pv 0) (pa_cons (pv 2) pa_nil))))
      (pss_one (ps_if (PW.pt (pw_or (pt_not (pt_val (pe_has h_law_either (hr.mono (by first | decide | omega)) (by rfl) pass0 (pa_cons (pe_bm PySem.F.plainAttrs_str PySem.F.slot_str_join PySem.F.type_str_join mt_join pe_str (pa_cons (pe_has h_law_spoilt (hr.mono (by first | decide | omega)) (by rfl) pass0 (pa_cons (pv 1) (pa_cons (pv 3) pa_nil))) pa_nil)) pa_nil)))) (pw_or1 (pt_not (pt_val (pe_has h_law_either (hr.mono (by first | decide | omega)) (by rfl) pass0 (pa_cons (pe_has h_law_small (hr.mono (by first | decide | omega)) (by rfl) pass0 (pa_cons (pv 3) pa_nil)) pa_nil))))))) (pss_one (ps_ret pe_bl)) pss_nil)))) ?_
    intro t2'
    refine go_c (ps_set (i := 3) sc_law.nd rfl (Or.inl rfl) (pe_has h_law_cell (hr.mono (by first | decide | omega)) (by rfl) pass0 (pa_cons (pv 0) (pa_cons pe_int pa_nil)))) ?_
    intro t3'
    refine go_c (ps_set (i := 4) sc_law.nd rfl (Or.inl rfl) (pe_op op_add pe_int (pe_op op_mod (pv 3) pe_int))) ?_
    intro t4'
    refine go_c (ps_set (i := 5) sc_law.nd rfl (Or.inl rfl) (pe_op op_add pe_int (pe_op op_mod (pe_op op_fdiv (pv 3) pe_int) pe_int))) ?_
    intro t5'
    refine go_c (ps_if (pt_cmpR (op_neL hr.units0) (pe_has h_seen_words (hr.mono (by first | decide | omega)) (by rfl) pass0V (pa_cons (pe_op op_add_str (pe_op op_add_str (pe_op op_repS pe_str (pv 5)) pe_str) (pe_op op_repS pe_str (pv 5))) pa_nil)) (pe_ix ix_list (pe_lst (pa_cons (pe_lst (pa_cons pe_str (pa_cons pe_str pa_nil))) (pa_cons (pe_lst (pa_cons pe_str (pa_cons pe_str pa_nil))) pa_nil))) (pe_op op_mod (pv 5) pe_int) (fun _ _ => rfl)) (nomark _)) (pss_one (ps_ret pe_bl)) pss_nil) ?_
    intro t6'
    refine go_c (ps_if (PW.pt (pw_or (pt_not (pt_val (pe_has h_law_refused (hr.mono (by first | decide | omega)) (by rfl) pass0 (pa_cons (pe_bm PySem.F.plainAttrs_str PySem.F.slot_str_join PySem.F.type_str_join mt_join pe_str (pa_cons (pe_op op_rep (pe_lst (pa_cons pe_str pa_nil)) (pv 4)) pa_nil)) pa_nil)))) (pw_or1 (pt_not (pt_val (pe_has h_law_refused (hr.mono (by first | decide | omega)) (by rfl) pass0 (pa_cons (pe_op op_add_str (pe_op op_add_str pe_str (pe_bm PySem.F.plainAttrs_str PySem.F.slot_str_join PySem.F.type_str_join mt_join pe_str (pa_cons (pe_op op_rep (pe_lst (pa_cons pe_str pa_nil)) (pv 4)) pa_nil))) pe_str) pa_nil))))))) (pss_one (ps_ret pe_bl)) pss_nil) ?_
    intro t7'
    refine go_c (ps_set (i := 6) sc_law.nd rfl (Or.inl rfl) (pe_tup (pa_cons (pe_ix ix_str pe_str (pe_op op_mod (pe_op op_fdiv (pv 3) pe_int) pe_int) (fun _ _ => rfl)) (pa_cons (pe_op op_repT (pe_tup (pa_cons pe_non pa_nil)) (pe_op op_add pe_int (pe_op op_mod (pe_op op_fdiv (pv 3) pe_int) pe_int))) pa_nil)))) ?_
    intro t8'
    refine go_c (ps_setComp (i := 7) sc_law.nd rfl (Or.inl rfl) rfl cs_law_0 rfl (pi_range1 rfl T.b.rng (pa_cons (pe_callB call_len_seq (by rfl) T.b.len PySem.boot_len (pa_cons (pe_ix ix_tup (pv 6) pe_int (fun _ _ => rfl)) pa_nil)) pa_nil)) (fun cl C fp s H => pg_name (i := 0) cs_law_0.nd rfl (Or.inl rfl)) (fun cl C fp s H => pts_nil) (fun cl C fp s H => (pe_has h_law_word (hr.mono (by first | decide | omega)) (by rfl) pass0 (pa_cons (pe_has h_law_cell (hr.mono (by first | decide | omega)) (by rfl) pass0 (pa_cons (pv 1) (pa_cons (pv 0) pa_nil))) pa_nil))) rfl) ?_
    intro t9'
    refine go_c (ps_set (i := 8) sc_law.nd rfl (Or.inl rfl) (pe_op op_mod (pe_op op_fdiv (pv 3) pe_int) (pe_callB call_len_seq (by rfl) T.b.len PySem.boot_len (pa_cons (pv 7) pa_nil)))) ?_
    intro t10'
    refine go_c (ps_set (i := 9) sc_law.nd rfl (Or.inl rfl) (pe_ix ix_list (@pe_lst _ _ _ _ (@pa_c _ _ _ _ _ (by exact (pe_has h_law_strange (hr.mono (by first | decide | omega)) (by rfl) pass0 (pa_cons (pe_op op_fdiv (pv 3) pe_int) pa_nil))) (@pa_c _ _ _ _ _ (by exact pe_non) (@pa_c _ _ _ _ _ (by exact pe_int) (@pa_c _ _ _ _ _ (by exact pe_bl) (@pa_c _ _ _ _ _ (by exact (pe_lst (pa_cons pe_str pa_nil))) (@pa_c _ _ _ _ _ (by exact (pe_tup (pa_cons pe_str pa_nil))) (@pa_c _ _ _ _ _ (by exact pe_str) pa_nil (by rfl)) (by rfl)) (by rfl)) (by rfl)) (by rfl)) (by rfl)) (by rfl))) (pe_op op_mod (pe_op op_fdiv (pv 3) pe_int) pe_int) (fun _ _ => rfl))) ?_
    intro t11'
    refine go_c (ps_set (i := 10) sc_law.nd rfl (Or.inl rfl) (pe_op op_cat (pe_op op_cat (pe_slice sl_list (pv 7) po_none (po_some (pv 8))) (pe_lst (pa_cons (pv 9) pa_nil))) (pe_slice sl_list (pv 7) (po_some (pe_op op_add (pv 8) pe_int)) po_none))) ?_
    intro t12'
    refine go_c (ps_set (i := 11) sc_law.nd rfl (Or.inl rfl) (pe_callTy call_list_of (by rfl) T.b.lst boot_ty_list (pa_cons (pv 10) pa_nil))) ?_
    intro t13'
    refine go_c (ps_if (PW.pt (pw_or (pt_not (pt_val (pe_has h_law_unwritten (hr.mono (by first | decide | omega)) (by rfl) pass0 (pa_cons (pv 11) (pa_cons (pv 6) (pa_cons pe_int pa_nil)))))) (pw_or (pt_cmpR (op_neL hr.units0) (pv 11) (pv 10) (nomark _)) (pw_or1 (pt_not (pt_val (pe_has h_law_unwritten (hr.mono (by first | decide | omega)) (by rfl) pass0 (pa_cons (pe_op op_cat (pv 7) (pe_lst (pa_cons pe_str pa_nil))) (pa_cons (pv 6) (pa_cons pe_int pa_nil)))))))))) (pss_one (ps_ret pe_bl)) pss_nil) ?_
    intro t14'
    refine go_c (ps_if (PW.pt (pw_or (pt_not (pt_val (pe_has h_law_unwritten (hr.mono (by first | decide | omega)) (by rfl) pass0 (pa_cons (pe_slice sl_list (pv 7) (po_some pe_int) po_none) (pa_cons (pv 6) (pa_cons pe_int pa_nil)))))) (pw_or (pt_not (pt_val (pe_has h_law_unwritten (hr.mono (by first | decide | omega)) (by rfl) pass0 (pa_cons (pe_lst pa_nil) (pa_cons pe_non (pa_cons pe_int pa_nil)))))) (pw_or1 (pt_not (pt_val (pe_has h_law_unwritten (hr.mono (by first | decide | omega)) (by rfl) pass0 (pa_cons (pe_lst pa_nil) (pa_cons (pv 6) (pa_cons pe_int pa_nil)))))))))) (pss_one (ps_ret pe_bl)) pss_nil) ?_
    intro t15'
    refine go_c (ps_set (i := 12) sc_law.nd rfl (Or.inl rfl) (pe_ix ix_list (@pe_lst _ _ _ _ (@pa_c _ _ _ _ _ (by exact (pe_tup (pa_cons (pe_ix ix_tup (pv 6) pe_int (fun _ _ => rfl)) (pa_cons (pe_tup (pa_cons (pv 6) (pa_cons pe_non pa_nil))) pa_nil)))) (@pa_c _ _ _ _ _ (by exact (pe_lst (pa_cons pe_non (pa_cons pe_non pa_nil)))) (@pa_c _ _ _ _ _ (by exact (pe_tup (pa_cons pe_str (pa_cons (pe_ix ix_tup (pv 6) pe_int (fun _ _ => rfl)) pa_nil)))) (@pa_c _ _ _ _ _ (by exact pe_int) (@pa_c _ _ _ _ _ (by exact pe_str) (@pa_c _ _ _ _ _ (by exact (pe_tup (pa_cons (pe_ix ix_tup (pv 6) pe_int (fun _ _ => rfl)) (pa_cons (pe_slice sl_tup (pe_ix ix_tup (pv 6) pe_int (fun _ _ => rfl)) po_none (po_some pe_int)) pa_nil)))) pa_nil (by rfl)) (by rfl)) (by rfl)) (by rfl)) (by rfl)) (by rfl))) (pe_op op_mod (pe_op op_fdiv (pv 3) pe_int) pe_int) (fun _ _ => rfl))) ?_
    intro t16'
    refine go_1 (ps_ret (pe_and (pe_has h_law_unwritten (hr.mono (by first | decide | omega)) (by rfl) pass0 (pa_cons (pv 10) (pa_cons (pv 12) (pa_cons pe_int pa_nil)))) (pe_and (pe_has h_law_unwritten (hr.mono (by first | decide | omega)) (by rfl) pass0 (pa_cons (pv 7) (pa_cons (pv 12) (pa_cons pe_int pa_nil)))) (pe_one (pe_cmpR op_eq (pe_has h_write (hr.mono (by first | decide | omega)) (by rfl) pass0V (pa_cons (pe_lst (pa_cons pe_str pa_nil)) (pa_cons pe_non pa_nil))) pe_str (nomark _)))))) ?_
    intro t17'
    refine ⟨_, rfl, a, ns, rfl, hS, hl, fun mp xs w ps r H1 nmp emp hseg k1 k2 k3 s1 => ?_⟩
    refine gname_go ?_
    dsimp only [List.set]
    have P9 : pc9 xs := pc9.of hseg.pieces
    obtain ⟨g1, g2⟩ := P9.text (by omega)
    refine ⟨rfl, _, rfl, " ", mp, xs, rfl, rfl, SqL.of emp, P9.joins (by omega), _, rfl, g1, g2, fun H2 s2 => ⟨_, rfl, iteF ?_⟩⟩
    have S2 := s1.trans s2
    have emp2 := s2 _ _ emp
    show tSeq t2' (tSeq t3' (tSeq t4' (tSeq t5' (tSeq t6' (tSeq t7' (tSeq t8' (tSeq t9' (tSeq t10' (tSeq t11' (tSeq t12' (tSeq t13' (tSeq t14' (tSeq t15' (tSeq t16' t17'))))))))))))))  _ _ _
    refine ⟨1, 7, rfl, ⟨by decide, by decide, by decide, by decide⟩, for_range (n := 6) (lo := 1) (fun i σ Hy => ∃ v2 v3 : Option V, σ = [some (.ref a), some (.ref mp), v2, v3, none, none, none, none, none, none, none, none, none] ∧ Same H2 Hy) ⟨none, none, rfl, Same.refl _⟩ ?_ ?_⟩
    · rintro i σ Hy hi ⟨v2, v3, rfl, sy⟩
      refine gname_go ?_
      dsimp only [List.set]
      refine ⟨_, rfl, _, rfl, a, ns, 1 + (i : Int), rfl, (S2.trans sy).seq hS, hl, by omega, by omega, fun c2 => ?_⟩
      refine gname_go ?_
      dsimp only [List.set]
      refine ⟨rfl, _, rfl, _, rfl, mp, xs, c2, rfl, SqL.of (sy _ _ emp2), k3, P9, fun p ys H3 ep hyl hy9 s3 => ?_⟩
      obtain ⟨y1, y2⟩ := hy9.text (by omega)
      refine ⟨" ", p, ys, rfl, rfl, SqL.of ep, hy9.joins (by omega), _, rfl, y1, y2, fun H4 s4 => ⟨_, rfl, iteF ?_⟩⟩
      exact ⟨_, rfl, c2, rfl, fun x H5 hx1 hx2 s5 => ⟨x, rfl, hx1, hx2, fun H6 s6 => ⟨_, rfl, iteF ⟨_, _, rfl, sy.trans (s3.trans (s4.trans (s5.trans s6)))⟩⟩⟩⟩
    rintro σ Hy ⟨v2, v3, rfl, sy⟩
    have SY := S2.trans sy
    refine ⟨_, rfl, a, ns, 0, rfl, SY.seq hS, hl, by omega, by omega, fun c => ?_⟩
    refine gname_go ?_
    dsimp only [List.set]
    obtain ⟨m, hm⟩ : ∃ n : Nat, 61 + c % 10 = (n : Int) := ⟨(61 + c % 10).toNat, by omega⟩
    obtain ⟨pn, hpn⟩ : ∃ n : Nat, 100 + c / 10 % 201 = (n : Int) := ⟨(100 + c / 10 % 201).toNat, by omega⟩
    refine ⟨_, rfl, _, _, rfl, rfl, (by show (0 : Int) < 10; decide), _, _, rfl, rfl, ?_⟩
    refine gname_go ?_
    dsimp only [List.set]
    rw [hm]
    refine ⟨_, rfl, _, _, rfl, rfl, ⟨by decide, by decide⟩, _, _, rfl, rfl, (by show (0 : Int) < 201; decide), _, _, rfl, rfl, ?_⟩
    refine gname_go ?_
    dsimp only [List.set]
    rw [hpn]
    have hm1 : 61 ≤ m := by omega
    have hm2 : m ≤ 70 := by omega
    have hp1 : pn ≤ 300 := by omega
    have l2 : (Str.ofString "< ").length = 2 := by decide +kernel
    have l3 : (Str.ofString " >").length = 2 := by decide +kernel
    have l4 : (Str.ofString "a b").length = 3 := by decide +kernel
    have r2 := rep_len (Str.ofString "< ") pn
    have r3 := rep_len (Str.ofString " >") pn
    obtain ⟨pq, hsegP⟩ := manyP_seg pn
    have hpl := manyP_len pn
    have hpj := pcs_join hsegP.pieces
    refine ⟨_, rfl, _, pn, rfl, rfl, by omega, by omega, _, _, rfl, rfl, line_mil (by rw [r2, l2, l4]; omega), _, rfl, _, pn, rfl, rfl, by omega, by omega, _, _, rfl, rfl, line_mil (by rw [str_len, r2, r3, l2, l3, l4]; omega), ?_⟩
    rw [manyP_text]
    have hsp := pcs_split (hsegP.ne (by decide)) hsegP.pieces
    refine ⟨_, rfl, by omega, by rw [hsp]; omega, fun row e ho fl H3 nfl efl s3 => ?_, fun hb => ?_⟩
    case refine_2 =>
      rw [hsp] at hb
      have := hb _ hsegP.seen
      rw [hsegP.ok (by decide) (by decide)] at this
      cases this
    rw [hsp, hsegP.seen] at e
    cases e
    rw [manyP_row] at efl
    have SY3 := SY.trans s3
    refine ⟨(by show 2 ≤ sizeLine; decide), fun la hla => ⟨(by show 2 ≤ sizeLine; decide), fun lb hlb => ⟨(by show 2 ≤ sizeLine; decide), fun lo hlo => ?_⟩⟩⟩
    have u1 := same_upd (o := .lst [V.str (Str.ofString "a"), V.str (Str.ofString "b")]) hla
    have u2 := same_upd (o := .lst [V.str (Str.ofString "b"), V.str (Str.ofString "a")]) hlb
    have u3 := same_upd (o := .lst [V.ref la, V.ref lb]) hlo
    have ela := u3 _ _ (u2 _ _ (show (upd H3 la (.lst [V.str (Str.ofString "a"), V.str (Str.ofString "b")])) la = some (.lst ([("a" : Str), ("b" : Str)].map V.str)) from upd_same))
    have elb := u3 _ _ (show (upd (upd H3 la (.lst [V.str (Str.ofString "a"), V.str (Str.ofString "b")])) lb (.lst [V.str (Str.ofString "b"), V.str (Str.ofString "a")])) lb = some (.lst ([("b" : Str), ("a" : Str)].map V.str)) from upd_same)
    have elo : (upd (upd (upd H3 la (.lst [V.str (Str.ofString "a"), V.str (Str.ofString "b")])) lb (.lst [V.str (Str.ofString "b"), V.str (Str.ofString "a")])) lo (.lst [V.ref la, V.ref lb])) lo = some (.lst [V.ref la, V.ref lb]) := upd_same
    have U := u1.trans (u2.trans u3)
    generalize upd (upd (upd H3 la (.lst [V.str (Str.ofString "a"), V.str (Str.ofString "b")])) lb (.lst [V.str (Str.ofString "b"), V.str (Str.ofString "a")])) lo (.lst [V.ref la, V.ref lb]) = H4 at ela elb elo U ⊢
    obtain ⟨lz, hat, elz⟩ : ∃ lz : Addr, atI [V.ref la, V.ref lb] ((pn : Int) % 2) = some (V.ref lz) ∧ H4 lz = some (.lst ((if pn % 2 = 0 then [("a" : Str), ("b" : Str)] else [("b" : Str), ("a" : Str)]).map V.str)) := by
      rcases Nat.mod_two_eq_zero_or_one pn with h | h
      · refine ⟨la, ?_, by rw [if_pos h]; exact ela⟩
        rw [show (pn : Int) % 2 = ((0 : Nat) : Int) by omega]
        rfl
      · refine ⟨lb, ?_, by rw [if_neg (by omega)]; exact elb⟩
        rw [show (pn : Int) % 2 = ((1 : Nat) : Int) by omega]
        rfl
    refine ⟨_, rfl, _, _, rfl, rfl, (by show (0 : Int) < 2; decide), lo, _, _, _, rfl, rfl, SqL.of elo, hat, fl, lz, _, _, rfl, rfl, SqL.of (U _ _ efl), SqL.of elz, .inr ⟨true, eqKs_strs _, _, rfl, iteF ?_⟩⟩
    have S4 := SY3.trans U
    obtain ⟨pa, ra, hsegA⟩ := manyA_seg m
    have A9 : pc9 (List.replicate m ("a" : Str)) := pc9.of hsegA.pieces
    have hal : (List.replicate m ("a" : Str)).length = m := by simp
    have hA1 : 1 ≤ (List.replicate m ("a" : Str)).length := by omega
    obtain ⟨a1, a2⟩ := A9.text (by omega)
    have hspA := pcs_split (hsegA.ne hA1) hsegA.pieces
    have hflat : (List.replicate ((m : Int).toNat) [V.str (Str.ofString "a")]).flatten = (List.replicate m ("a" : Str)).map V.str := by
      rw [show ((m : Int)).toNat = m by omega, repl_flat, List.map_replicate]
    refine ⟨rfl, (by show 1 ≤ sizeLine; decide), fun ll hll => ?_⟩
    have v1 := same_upd (o := .lst [V.str (Str.ofString "a")]) hll
    refine ⟨_, rfl, ll, (m : Int), [V.str (Str.ofString "a")], rfl, rfl, upd_same, by omega, by omega, line1000 (by simp; omega), fun rl hrl => ?_⟩
    rw [hflat]
    have v2' := v1.trans (same_upd (o := .lst ((List.replicate m ("a" : Str)).map V.str)) hrl)
    refine ⟨" ", rl, _, rfl, rfl, SqL.of upd_same, A9.joins (by omega), _, rfl, a1, by omega, fun row e => ?_, fun H5 s5 => ⟨_, rfl, iteF ?_⟩⟩
    · rw [hspA] at e
      exact seg_long hsegA (by omega) row e
    have S5 := S4.trans (v2'.trans s5)
    have hpr := hsegA.pair (by omega)
    have B9 : pc9 (("<" : Str) :: (List.replicate m ("a" : Str) ++ [(">" : Str)])) := pc9.of hpr.pieces
    obtain ⟨b1, b2⟩ := B9.text (by simp; omega)
    have hspB := pcs_split (xs := ("<" : Str) :: (List.replicate m ("a" : Str) ++ [(">" : Str)])) (by simp) hpr.pieces
    refine ⟨rfl, (by show 1 ≤ sizeLine; decide), fun l5 hl5 => ?_⟩
    have w1' := same_upd (o := .lst [V.str (Str.ofString "a")]) hl5
    refine ⟨_, rfl, l5, (m : Int), [V.str (Str.ofString "a")], rfl, rfl, upd_same, by omega, by omega, line1000 (by simp; omega), fun r5 hr5 => ?_⟩
    rw [hflat]
    have w2' := w1'.trans (same_upd (o := .lst ((List.replicate m ("a" : Str)).map V.str)) hr5)
    refine ⟨" ", r5, _, rfl, rfl, SqL.of upd_same, A9.joins (by omega), _, _, rfl, rfl, line_mil (by rw [l2]; omega), _, _, rfl, rfl, line_mil (by rw [str_len, l2, l3]; omega), ?_⟩
    rw [markA_text m (by omega)]
    refine ⟨_, rfl, b1, by omega, fun row e => ?_, fun H6 s6 => ⟨_, rfl, iteF ?_⟩⟩
    · rw [hspB] at e
      exact seg_long hpr (by omega) row e
    have S6 := S5.trans (w2'.trans s6)
    have hj : c / 10 % 2 = 0 ∨ c / 10 % 2 = 1 := by omega
    obtain ⟨ch, hch, hck⟩ := pick_two hj
    obtain ⟨w0, hw0⟩ : ∃ n : Nat, 2 + c / 20 % 4 = (n : Int) := ⟨(2 + c / 20 % 4).toNat, by omega⟩
    have hw02 : 2 ≤ w0 := by omega
    have hw05 : w0 ≤ 5 := by omega
    refine ⟨_, rfl, _, _, rfl, rfl, ⟨by decide, by decide⟩, _, _, rfl, rfl, (by show (0 : Int) < 2; decide), _, _, ch, rfl, rfl, (by decide +kernel), hch, (by show 1 ≤ sizeLine; decide), fun t1 ht1 => ?_⟩
    rw [hck]
    have x1 := same_upd (o := .tup [V.non]) ht1
    refine ⟨_, rfl, _, _, rfl, rfl, ⟨by decide, by decide⟩, _, _, rfl, rfl, (by show (0 : Int) < 4; decide), _, _, rfl, rfl, t1, 2 + c / 20 % 4, V.non, rfl, rfl, SqT.of upd_same, by omega, by omega, fun bp hbp => ⟨(by show 2 ≤ sizeLine; decide), fun np hnp => ?_⟩⟩
    rw [hw0, show ((w0 : Int)).toNat = w0 by omega] at hnp ⊢
    generalize decide (c / 10 % 2 = 0) = kk at hnp ⊢
    have x2 := same_upd (o := .tup (List.replicate w0 V.non)) hbp
    have x3 := same_upd (o := .tup [V.str (kS kk), V.ref bp]) hnp
    have ebp := x3 _ _ (show (upd (upd H6 t1 (.tup [V.non])) bp (.tup (List.replicate w0 V.non))) bp = some (.tup (List.replicate w0 V.non)) from upd_same)
    have enp : (upd (upd (upd H6 t1 (.tup [V.non])) bp (.tup (List.replicate w0 V.non))) np (.tup [V.str (kS kk), V.ref bp])) np = some (.tup [V.str (kS kk), V.ref bp]) := upd_same
    have X3 := x1.trans (x2.trans x3)
    generalize upd (upd (upd H6 t1 (.tup [V.non])) bp (.tup (List.replicate w0 V.non))) np (.tup [V.str (kS kk), V.ref bp]) = H7 at ebp enp X3 ⊢
    have S7 := S6.trans X3
    obtain ⟨hvN, hwN⟩ := flatK kk w0
    have hN : NestAt K H7 (.knot kk (List.replicate w0 .word)) (.ref np) := ⟨np, bp, List.replicate w0 .non, rfl, enp, ebp, by simp; omega, by simp; omega, NestsAt.rep w0⟩
    have hok : okN (.knot kk (List.replicate w0 .word)) = true := by unfold okN; rw [hvN, hwN, decide_eq_true (by omega)]; rfl
    refine gname_go ?_
    dsimp only [List.set]
    refine ⟨_, rfl, np, _, 1, _, rfl, rfl, SqT.of enp, rfl, bp, _, rfl, .inr (SqT.of ebp), ((List.replicate w0 V.non).length : Int), rfl, by rw [List.length_replicate]; omega, by rw [List.length_replicate]; omega, fun wp hwp => ?_⟩
    rw [List.length_replicate, show ((w0 : Int)).toNat = w0 by omega]
    refine comp_inv (n := w0) (fun i acc Hc => ∃ ws : List Str, acc = ws.map V.str ∧ ws.length = i ∧ (∀ x ∈ ws, isW x = true) ∧ Hc = upd H7 wp (.lst acc)) ⟨[], rfl, rfl, (fun x hx => by cases hx), rfl⟩ ?_ (line1000 (by omega)) ?_ ?_ ?_
    · rintro i acc Hc ⟨ws, rfl, hl', _, rfl⟩
      exact ⟨upd_same, by simp; omega⟩
    · rintro i acc Hc hi _
      exact hi
    · rintro acc Hc ⟨ws, rfl, hwl, hW, rfl⟩
      refine ⟨Nat.le_refl _, ?_⟩
      have y1 := same_upd (o := .lst (ws.map V.str)) hwp
      have ewp : (upd H7 wp (.lst (ws.map V.str))) wp = some (.lst (ws.map V.str)) := upd_same
      have enp8 := y1 _ _ enp
      have ebp8 := y1 _ _ ebp
      have hN8 := hN.mono y1
      have S8 := S7.trans y1
      generalize upd H7 wp (.lst (ws.map V.str)) = H8 at y1 ewp enp8 ebp8 hN8 S8 ⊢
      refine gname_go ?_
      dsimp only [List.set]
      have hlm : (ws.map V.str).length = w0 := by rw [List.length_map, hwl]
      have m0 := Int.emod_nonneg (c / 80) (show ((w0 : Int)) ≠ 0 by omega)
      have m1 := Int.emod_lt_of_pos (c / 80) (show (0 : Int) < (w0 : Int) by omega)
      obtain ⟨at', hat'⟩ : ∃ n : Nat, c / 80 % (w0 : Int) = (n : Int) := ⟨(c / 80 % (w0 : Int)).toNat, by omega⟩
      refine ⟨_, rfl, _, _, rfl, rfl, ⟨by decide, by decide⟩, _, rfl, wp, _, rfl, .inl (SqL.of ewp), _, _, rfl, rfl, (by show (0 : Int) < ((ws.map V.str).length : Int); omega), ?_⟩
      refine gname_go ?_
      rw [hlm]
      dsimp only [List.set]
      rw [hat']
      refine ⟨_, rfl, _, _, rfl, rfl, ⟨by decide, by decide⟩, _, rfl, fun st H9 st9 st32 stw s9 => ⟨(by show 1 ≤ sizeLine; decide), fun la hla => ⟨(by show 1 ≤ sizeLine; decide), fun ta hta => ⟨(by show 7 ≤ sizeLine; decide), fun lo hlo => ?_⟩⟩⟩⟩
      have z1 := same_upd (o := .lst [V.str (Str.ofString "a")]) hla
      have z2 := same_upd (o := .tup [V.str (Str.ofString "a")]) hta
      have z3 := same_upd (o := .lst [V.str st, V.non, V.int 7, V.bl true, V.ref la, V.ref ta, V.str (Str.ofString "<")]) hlo
      have ela := z3 _ _ (z2 _ _ (show (upd H9 la (.lst [V.str (Str.ofString "a")])) la = some (.lst [V.str (Str.ofString "a")]) from upd_same))
      have eta' := z3 _ _ (show (upd (upd H9 la (.lst [V.str (Str.ofString "a")])) ta (.tup [V.str (Str.ofString "a")])) ta = some (.tup [V.str (Str.ofString "a")]) from upd_same)
      have elo : (upd (upd (upd H9 la (.lst [V.str (Str.ofString "a")])) ta (.tup [V.str (Str.ofString "a")])) lo (.lst [V.str st, V.non, V.int 7, V.bl true, V.ref la, V.ref ta, V.str (Str.ofString "<")])) lo = some (.lst [V.str st, V.non, V.int 7, V.bl true, V.ref la, V.ref ta, V.str (Str.ofString "<")]) := upd_same
      have Z := s9.trans (z1.trans (z2.trans z3))
      generalize upd (upd (upd H9 la (.lst [V.str (Str.ofString "a")])) ta (.tup [V.str (Str.ofString "a")])) lo (.lst [V.str st, V.non, V.int 7, V.bl true, V.ref la, V.ref ta, V.str (Str.ofString "<")]) = G0 at ela eta' elo Z ⊢
      obtain ⟨v, hv, hatv⟩ := at_mod [V.str st, V.non, V.int 7, V.bl true, V.ref la, V.ref ta, V.str (Str.ofString "<")] (c / 400) (by simp)
      obtain ⟨hvw, hvWV, hvs⟩ : wordV v = false ∧ WV K G0 v ∧ selfV v = true := by
        simp only [List.mem_cons, List.not_mem_nil, or_false] at hv
        rcases hv with rfl | rfl | rfl | rfl | rfl | rfl | rfl
        · exact ⟨stw, .inl ⟨st, rfl, by omega⟩, rfl⟩
        · exact ⟨rfl, .inr ⟨rfl, _, .non, kit_not K rfl rfl (by decide +kernel)⟩, rfl⟩
        · exact ⟨rfl, .inr ⟨rfl, _, .int _, kit_not K rfl rfl (by decide +kernel)⟩, rfl⟩
        · exact ⟨rfl, .inr ⟨rfl, _, .bl _, kit_not K rfl rfl (by decide +kernel)⟩, rfl⟩
        · exact ⟨rfl, .inr ⟨rfl, _, .lst ela, kit_not K rfl rfl (by decide +kernel)⟩, rfl⟩
        · exact ⟨rfl, .inr ⟨rfl, _, .tup eta', kit_not K rfl rfl (by decide +kernel)⟩, rfl⟩
        · exact ⟨by decide +kernel, .inl ⟨_, rfl, by decide +kernel⟩, rfl⟩
      refine ⟨_, rfl, _, _, rfl, rfl, ⟨by decide, by decide⟩, _, _, rfl, rfl, (by show (0 : Int) < 7; decide), lo, _, _, _, rfl, rfl, SqL.of elo, hatv, ?_⟩
      refine gname_go ?_
      dsimp only [List.set]
      have ewp0 := Z _ _ ewp
      have cutH : cutV (ws.map V.str) none (some (at' : Int)) = (ws.take at').map V.str := by rw [cutV_head _ at' (by omega), List.map_take]
      have cutE : ∀ k : Nat, cutV (ws.map V.str) (some (k : Int)) none = (ws.drop k).map V.str := fun k => by rw [cutEnd, List.map_drop]
      refine ⟨_, rfl, _, rfl, (at' : Int), rfl, wp, _, rfl, SqL.of ewp0, fun b1 hb1 => ?_⟩
      rw [cutH]
      have d1 := same_upd (o := .lst ((ws.take at').map V.str)) hb1
      refine ⟨_, rfl, (by show 1 ≤ sizeLine; decide), fun b2 hb2 => ?_⟩
      have d2 := same_upd (o := .lst [v]) hb2
      refine ⟨b1, b2, _, _, rfl, rfl, d2 _ _ upd_same, upd_same, line1000 (by simp; omega), fun b3 hb3 => ?_⟩
      have d3 := d1.trans (d2.trans (same_upd (o := .lst ((ws.take at').map V.str ++ [v])) hb3))
      have eb3 : (upd (upd (upd G0 b1 (.lst ((ws.take at').map V.str))) b2 (.lst [v])) b3 (.lst ((ws.take at').map V.str ++ [v]))) b3 = some (.lst ((ws.take at').map V.str ++ [v])) := upd_same
      generalize upd (upd (upd G0 b1 (.lst ((ws.take at').map V.str))) b2 (.lst [v])) b3 (.lst ((ws.take at').map V.str ++ [v])) = G3 at d3 eb3 ⊢
      refine ⟨_, rfl, _, rfl, _, _, rfl, rfl, ((at' + 1 : Nat) : Int), rfl, wp, _, rfl, SqL.of (d3 _ _ ewp0), fun b4 hb4 => ?_⟩
      rw [cutE]
      have d4 := same_upd (o := .lst ((ws.drop (at' + 1)).map V.str)) hb4
      refine ⟨b3, b4, _, _, rfl, rfl, d4 _ _ eb3, upd_same, line1000 (by simp; omega), fun bd hbd => ?_⟩
      obtain ⟨xB, hxB⟩ : ∃ xB, xB = (ws.take at').map V.str ++ [v] ++ (ws.drop (at' + 1)).map V.str := ⟨_, rfl⟩
      rw [← hxB]
      have d5 := d3.trans (d4.trans (same_upd (o := .lst xB) hbd))
      have ebd : (upd (upd G3 b4 (.lst ((ws.drop (at' + 1)).map V.str))) bd (.lst xB)) bd = some (.lst xB) := upd_same
      generalize upd (upd G3 b4 (.lst ((ws.drop (at' + 1)).map V.str))) bd (.lst xB) = G5 at d5 ebd ⊢
      refine gname_go ?_
      dsimp only [List.set]
      refine ⟨_, rfl, bd, _, rfl, .inl (SqL.of ebd), fun ha hha => ?_⟩
      have d6 := same_upd (o := .lst xB) hha
      have eha : (upd G5 ha (.lst xB)) ha = some (.lst xB) := upd_same
      have ebd6 := d6 _ _ ebd
      have Y := Z.trans (d5.trans d6)
      have d56 := d5.trans d6
      generalize upd G5 ha (.lst xB) = G6 at d6 eha ebd6 Y d56 ⊢
      refine gname_go ?_
      dsimp only [List.set]
      have hxl : xB.length ≤ 10 := by rw [hxB]; simp; omega
      have wW : ∀ (G : Hp) (x : V), x ∈ ws.map V.str → WV K G x ∧ selfV x = true := fun G x hx => by
        obtain ⟨y, hy, rfl⟩ := List.mem_map.mp hx
        exact ⟨.inl ⟨y, rfl, by have := (isW_len (hW y hy)).2; omega⟩, rfl⟩
      have xW : ∀ (G : Hp), Same G0 G → ∀ x ∈ xB, WV K G x ∧ selfV x = true := fun G sG x hx => by
        rw [hxB] at hx
        rcases List.mem_append.mp hx with hx | hx
        · rcases List.mem_append.mp hx with hx | hx
          · exact wW G x (by rw [List.map_take] at hx; exact List.mem_of_mem_take hx)
          · rw [List.mem_singleton.mp hx]; exact ⟨hvWV.mono sG, hvs⟩
        · exact wW G x (by rw [List.map_drop] at hx; exact List.mem_of_mem_drop hx)
      have xbad : okRV xB = false := okRV_bad (x := v) (by rw [hxB]; simp) hvw
      have hN6 := hN8.mono Y
      have ewp6 := Y _ _ ewp
      refine ⟨_, rfl, _, rfl, .ref np, ha, _, xB, 0, rfl, hN6, SqL.of eha, by omega, fun x hx => (xW G6 d56 x hx).1, .inl ⟨rfl, hok, .inr xbad⟩, fun G7 e7 => ⟨_, rfl, iteF ?_⟩⟩
      refine ⟨_, rfl, _, rfl, ha, bd, _, _, rfl, rfl, SqL.of (e7 _ _ eha), SqL.of (e7 _ _ ebd6), .inr ⟨true, eqKs_self xB fun x hx => (xW G6 d56 x hx).2, _, rfl, iteF ?_⟩⟩
      refine ⟨_, rfl, (by show 1 ≤ sizeLine; decide), fun c1 hc1 => ?_⟩
      have f1 := same_upd (o := .lst [V.str (Str.ofString "a")]) hc1
      refine ⟨wp, c1, _, _, rfl, rfl, f1 _ _ (e7 _ _ ewp6), upd_same, line1000 (by simp; omega), fun c2 hc2 => ?_⟩
      have f2 := f1.trans (same_upd (o := .lst (ws.map V.str ++ [V.str (Str.ofString "a")])) hc2)
      refine ⟨_, rfl, .ref np, c2, _, ws.map V.str ++ [V.str (Str.ofString "a")], 0, rfl, (hN6.mono e7).mono f2, SqL.of upd_same, by simp; omega, fun x hx => ?_, .inl ⟨rfl, hok, .inl (by rw [hwN]; simp; omega)⟩, fun G8 e8 => ⟨_, rfl, iteF ?_⟩⟩
      · rcases List.mem_append.mp hx with hx | hx
        · exact (wW _ x hx).1
        · rw [List.mem_singleton.mp hx]; exact .inl ⟨_, rfl, by decide +kernel⟩
      have Y8 := e7.trans (f2.trans e8)
      have ewp8 := Y8 _ _ ewp6
      have hN8' := hN6.mono Y8
      refine ⟨_, rfl, 1, rfl, wp, _, rfl, SqL.of ewp8, fun c3 hc3 => ?_⟩
      rw [show (some (1 : Int)) = some ((1 : Nat) : Int) from rfl, cutE]
      have f3 := same_upd (o := .lst ((ws.drop 1).map V.str)) hc3
      refine ⟨_, rfl, .ref np, c3, _, (ws.drop 1).map V.str, 0, rfl, hN8'.mono f3, SqL.of upd_same, by simp; omega, fun x hx => (wW _ x (by rw [List.map_drop] at hx; exact List.mem_of_mem_drop hx)).1, .inl ⟨rfl, hok, .inl (by rw [hwN]; simp; omega)⟩, fun G9 e9 => ⟨_, rfl, iteF ?_⟩⟩
      refine ⟨(by show 0 ≤ sizeLine; omega), fun c4 hc4 => ?_⟩
      have f4 := same_upd (o := .lst []) hc4
      refine ⟨.non, c4, .word, [], 0, rfl, rfl, SqL.of upd_same, by simp, (fun x hx => by cases hx), .inl ⟨rfl, rfl, .inl (by simp [words])⟩, fun G10 e10 => ⟨_, rfl, iteF ?_⟩⟩
      refine ⟨(by show 0 ≤ sizeLine; omega), fun c5 hc5 => ?_⟩
      have f5 := same_upd (o := .lst []) hc5
      have Y10 := Y8.trans (f3.trans (e9.trans (f4.trans e10)))
      refine ⟨_, rfl, .ref np, c5, _, [], 0, rfl, (hN6.mono Y10).mono f5, SqL.of upd_same, by simp, (fun x hx => by cases hx), .inl ⟨rfl, hok, .inl (by rw [hwN]; simp; omega)⟩, fun G11 e11 => ⟨_, rfl, iteF ?_⟩⟩
      have Y11 := Y10.trans (f5.trans e11)
      have enp11 := Y11 _ _ (Y _ _ enp8)
      have ebp11 := Y11 _ _ (Y _ _ ebp8)
      have hN11 := hN6.mono Y11
      have ewp11 := Y11 _ _ ewp6
      have ebd11 := Y11 _ _ ebd6
      refine ⟨_, rfl, np, _, 0, _, rfl, rfl, SqT.of enp11, rfl, _, rfl, (by show 2 ≤ sizeLine; decide), fun q1 hq1 => ⟨(by show 2 ≤ sizeLine; decide), fun q2 hq2 => ⟨(by show 2 ≤ sizeLine; decide), fun q3 hq3 => ?_⟩⟩⟩
      have o1 := same_upd (o := .tup [V.ref np, V.non]) hq1
      have o2 := same_upd (o := .tup [V.str (kS kk), V.ref q1]) hq2
      have o3 := same_upd (o := .lst [V.non, V.non]) hq3
      have F1 := o3 _ _ (o2 _ _ (show (upd G11 q1 (.tup [V.ref np, V.non])) q1 = some (.tup [V.ref np, V.non]) from upd_same))
      have F2 := o3 _ _ (show (upd (upd G11 q1 (.tup [V.ref np, V.non])) q2 (.tup [V.str (kS kk), V.ref q1])) q2 = some (.tup [V.str (kS kk), V.ref q1]) from upd_same)
      have F3 : (upd (upd (upd G11 q1 (.tup [V.ref np, V.non])) q2 (.tup [V.str (kS kk), V.ref q1])) q3 (.lst [V.non, V.non])) q3 = some (.lst [V.non, V.non]) := upd_same
      have O3 := o1.trans (o2.trans o3)
      generalize upd (upd (upd G11 q1 (.tup [V.ref np, V.non])) q2 (.tup [V.str (kS kk), V.ref q1])) q3 (.lst [V.non, V.non]) = J3 at F1 F2 F3 O3 ⊢
      have enpJ := O3 _ _ enp11
      have ebpJ := O3 _ _ ebp11
      refine ⟨_, rfl, np, _, 1, _, rfl, rfl, SqT.of enpJ, rfl, (by show 2 ≤ sizeLine; decide), fun q4 hq4 => ?_⟩
      have o4 := same_upd (o := .tup [V.str (Str.ofString ""), V.ref bp]) hq4
      have F4 : (upd J3 q4 (.tup [V.str (Str.ofString ""), V.ref bp])) q4 = some (.tup [V.str (Str.ofString ""), V.ref bp]) := upd_same
      have enp4 := o4 _ _ enpJ
      have ebp4 := o4 _ _ ebpJ
      generalize upd J3 q4 (.tup [V.str (Str.ofString ""), V.ref bp]) = J4 at o4 F4 enp4 ebp4 ⊢
      refine ⟨_, rfl, np, _, 0, _, rfl, rfl, SqT.of enp4, rfl, _, rfl, np, _, 1, _, rfl, rfl, SqT.of enp4, rfl, 1, rfl, bp, _, rfl, SqT.of ebp4, (fun ⟨_, h⟩ => ?_), fun q5 hq5 => ⟨(by show 2 ≤ sizeLine; decide), fun q6 hq6 => ⟨(by show 6 ≤ sizeLine; decide), fun lo2 hlo2 => ?_⟩⟩⟩
      · rw [show (some (1 : Int)) = some ((1 : Nat) : Int) from rfl, HT.sIx_nat, List.length_replicate] at h
        omega
      have hc5 : (cutV (List.replicate w0 V.non) none (some 1)).length < 2 := by
        rw [show (some (1 : Int)) = some ((1 : Nat) : Int) from rfl, cutV_head _ 1 (by simp; omega)]
        simp
        omega
      generalize cutV (List.replicate w0 V.non) none (some 1) = u5 at hc5 hq6 hlo2 ⊢
      have o5 := same_upd (o := .tup u5) hq5
      have o6 := same_upd (o := .tup [V.str (kS kk), V.ref q5]) hq6
      have o7 := same_upd (o := .lst [V.ref q2, V.ref q3, V.ref q4, V.int 0, V.str (Str.ofString ""), V.ref q6]) hlo2
      have F5 := o7 _ _ (o6 _ _ (show (upd J4 q5 (.tup u5)) q5 = some (.tup u5) from upd_same))
      have F6 := o7 _ _ (show (upd (upd J4 q5 (.tup u5)) q6 (.tup [V.str (kS kk), V.ref q5])) q6 = some (.tup [V.str (kS kk), V.ref q5]) from upd_same)
      have F7 : (upd (upd (upd J4 q5 (.tup u5)) q6 (.tup [V.str (kS kk), V.ref q5])) lo2 (.lst [V.ref q2, V.ref q3, V.ref q4, V.int 0, V.str (Str.ofString ""), V.ref q6])) lo2 = some (.lst [V.ref q2, V.ref q3, V.ref q4, V.int 0, V.str (Str.ofString ""), V.ref q6]) := upd_same
      have O7 := o5.trans (o6.trans o7)
      generalize upd (upd (upd J4 q5 (.tup u5)) q6 (.tup [V.str (kS kk), V.ref q5])) lo2 (.lst [V.ref q2, V.ref q3, V.ref q4, V.int 0, V.str (Str.ofString ""), V.ref q6]) = J7 at F5 F6 F7 O7 ⊢
      have O47 := o4.trans O7
      have O := O3.trans O47
      obtain ⟨vv, hvv, hatw⟩ := at_mod [V.ref q2, V.ref q3, V.ref q4, V.int 0, V.str (Str.ofString ""), V.ref q6] (c / 2800) (by simp)
      obtain ⟨n2, hN2, hbad2⟩ : ∃ n2, NestAt K J7 n2 vv ∧ okN n2 = false := by
        simp only [List.mem_cons, List.not_mem_nil, or_false] at hvv
        rcases hvv with rfl | rfl | rfl | rfl | rfl | rfl
        · exact ⟨.knot kk [.knot kk (List.replicate w0 .word), .word], ⟨q2, q1, _, rfl, O47 _ _ F2, O47 _ _ F1, by simp, by simp, ⟨_, _, rfl, hN11.mono O, ⟨_, _, rfl, rfl, rfl⟩⟩⟩, twice_bad _ _⟩
        · exact ⟨.bad, ⟨(fun z => by cases z), .ty (.lst (O47 _ _ F3)) (kit_not K rfl rfl (by decide +kernel))⟩, rfl⟩
        · exact ⟨.bad, ⟨(fun z => by cases z), .kind (O7 _ _ F4) (by decide +kernel) (by decide +kernel) ⟨_, _, .tup (O7 _ _ ebp4), kit_same _ _⟩⟩, rfl⟩
        · exact ⟨.bad, ⟨(fun z => by cases z), .ty (.int _) (kit_not K rfl rfl (by decide +kernel))⟩, rfl⟩
        · exact ⟨.bad, ⟨(fun z => by cases z), .ty (.str _) (kit_not K rfl rfl (by decide +kernel))⟩, rfl⟩
        · exact ⟨.bad, ⟨(fun z => by cases z), .few F6 F5 hc5⟩, rfl⟩
      refine ⟨_, rfl, _, _, rfl, rfl, ⟨by decide, by decide⟩, _, _, rfl, rfl, (by show (0 : Int) < 6; decide), lo2, _, _, _, rfl, rfl, SqL.of F7, hatw, ?_⟩
      refine gname_go ?_
      dsimp only [List.set]
      have YO := Y11.trans O
      refine ⟨_, rfl, _, rfl, vv, bd, n2, xB, 1, rfl, hN2, SqL.of (O _ _ ebd11), by omega, fun x hx => (xW J7 (d56.trans YO) x hx).1, .inr ⟨rfl, hbad2⟩, fun M1 p1 => ⟨_, rfl, iteT ?_⟩⟩
      refine ⟨_, rfl, _, rfl, vv, wp, n2, ws.map V.str, 1, rfl, hN2.mono p1, SqL.of (p1 _ _ (O _ _ ewp11)), by omega, fun x hx => (wW _ x hx).1, .inr ⟨rfl, hbad2⟩, fun M2 p2 => ⟨_, rfl, iteT ?_⟩⟩
      refine ⟨(by show 1 ≤ sizeLine; decide), fun z1 hz1 => ?_⟩
      refine ⟨.non, z1, .word, [V.str (Str.ofString "a")], rfl, rfl, SqL.of upd_same, by simp, (fun x hx => by rw [List.mem_singleton.mp hx]; exact .inl ⟨_, rfl, by decide +kernel⟩), fun _ ws' e1 _ _ M3 p3 => ?_, fun bad => absurd bad (by decide), fun _ hx => ?_⟩
      · obtain rfl : ws' = [("a" : Str)] := by
          match ws', e1 with
          | [x], e1 =>
            have : V.str (Str.ofString "a") = V.str x := by simpa using e1
            rw [V.str.inj this]
        refine ⟨rfl, ?_⟩
        rw [show decide (V.str (Txt.join " " (wrP .word [("a" : Str)])) = V.str (Str.ofString "a")) = true by decide +kernel]
        exact q _
      · exfalso
        rcases hx with hx | hx
        · exact hx rfl
        · exact absurd hx (by decide +kernel)
    · rintro i acc Hc y H5 R hi ⟨ws, rfl, hl', hW, rfl⟩ ⟨rfl, rfl⟩ hR
      refine ⟨_, rfl, _, rfl, a, ns, _, rfl, ((S7.trans (same_upd hwp)).seq hS), hl, by omega, by omega, fun cc => ⟨cc, rfl, fun x hx => ?_⟩⟩
      refine hR _ _ upd_same ⟨ws ++ [x], by rw [List.map_append]; rfl, by simp; omega, fun z hz => ?_, ?_⟩
      · rcases List.mem_append.mp hz with h | h
        · exact hW z h
        · rw [List.mem_singleton.mp h]; exact hx
      · funext b
        by_cases hb : b = wp
        · subst hb; rw [upd_same, upd_same]
        · rw [upd_ne hb, upd_ne hb, upd_ne hb]
end
theorem all_mk {l : PySem.W.OpenLaw} {w : World} {K : PySem.W.Frag} {h : Heap} {mg : Str → Option Value} {fa f0 f1 f2 f3 f4 f5 f6 f7 f8 f9 f10 f11 f12 f13 f14 f15 f16 f17 f18 f19 f20 f21 f22 f23 f24 f25 f26 : Addr} (X : K.In h) (G : h.Ns mainGlobals mg) (hfa : mg "law" = some (.ref fa))
    {od0 an0 : Option Addr} {sl0 : Array (Option Value)} {oc0 kV0 dc0 pm0 cd0 ct0 : Value}
    (a0 : PySem.W.nsIn K mainGlobals "is_nest" = some (some (.ref f0))) (l0 : K.lookup f0 = some ⟨oc0, od0, .func (PySem.W.fnOf "is_nest" "is_nest" (defArgs s_is_nest) (defBody s_is_nest) (defScope s_is_nest) .none kV0 dc0 pm0 an0 cd0 ct0), sl0⟩)
    (c0 : PySem.W.codeIn K cd0 "is_nest" = true) (k0 : PySem.W.keepIn K (.ref f0) = true)
    {od1 an1 : Option Addr} {sl1 : Array (Option Value)} {oc1 kV1 dc1 pm1 cd1 ct1 : Value}
    (a1 : PySem.W.nsIn K mainGlobals "is_knot" = some (some (.ref f1))) (l1 : K.lookup f1 = some ⟨oc1, od1, .func (PySem.W.fnOf "is_knot" "is_knot" (defArgs s_is_knot) (defBody s_is_knot) (defScope s_is_knot) .none kV1 dc1 pm1 an1 cd1 ct1), sl1⟩)
    (c1 : PySem.W.codeIn K cd1 "is_knot" = true) (k1 : PySem.W.keepIn K (.ref f1) = true)
    {od2 an2 : Option Addr} {sl2 : Array (Option Value)} {oc2 kV2 dc2 pm2 cd2 ct2 : Value}
    (a2 : PySem.W.nsIn K mainGlobals "must_be_nest" = some (some (.ref f2))) (l2 : K.lookup f2 = some ⟨oc2, od2, .func (PySem.W.fnOf "must_be_nest" "must_be_nest" (defArgs s_must_be_nest) (defBody s_must_be_nest) (defScope s_must_be_nest) .none kV2 dc2 pm2 an2 cd2 ct2), sl2⟩)
    (c2 : PySem.W.codeIn K cd2 "must_be_nest" = true) (k2 : PySem.W.keepIn K (.ref f2) = true)
    {od3 an3 : Option Addr} {sl3 : Array (Option Value)} {oc3 kV3 dc3 pm3 cd3 ct3 : Value}
    (a3 : PySem.W.nsIn K mainGlobals "is_of_kind" = some (some (.ref f3))) (l3 : K.lookup f3 = some ⟨oc3, od3, .func (PySem.W.fnOf "is_of_kind" "is_of_kind" (defArgs s_is_of_kind) (defBody s_is_of_kind) (defScope s_is_of_kind) .none kV3 dc3 pm3 an3 cd3 ct3), sl3⟩)
    (c3 : PySem.W.codeIn K cd3 "is_of_kind" = true) (k3 : PySem.W.keepIn K (.ref f3) = true)
    {od4 an4 : Option Addr} {sl4 : Array (Option Value)} {oc4 kV4 dc4 pm4 cd4 ct4 : Value}
    (a4 : PySem.W.nsIn K mainGlobals "count_words" = some (some (.ref f4))) (l4 : K.lookup f4 = some ⟨oc4, od4, .func (PySem.W.fnOf "count_words" "count_words" (defArgs s_count_words) (defBody s_count_words) (defScope s_count_words) .none kV4 dc4 pm4 an4 cd4 ct4), sl4⟩)
    (c4 : PySem.W.codeIn K cd4 "count_words" = true) (k4 : PySem.W.keepIn K (.ref f4) = true)
    {od5 an5 : Option Addr} {sl5 : Array (Option Value)} {oc5 kV5 dc5 pm5 cd5 ct5 : Value}
    (a5 : PySem.W.nsIn K mainGlobals "shared_out" = some (some (.ref f5))) (l5 : K.lookup f5 = some ⟨oc5, od5, .func (PySem.W.fnOf "shared_out" "shared_out" (defArgs s_shared_out) (defBody s_shared_out) (defScope s_shared_out) .none kV5 dc5 pm5 an5 cd5 ct5), sl5⟩)
    (c5 : PySem.W.codeIn K cd5 "shared_out" = true) (k5 : PySem.W.keepIn K (.ref f5) = true)
    {od6 an6 : Option Addr} {sl6 : Array (Option Value)} {oc6 kV6 dc6 pm6 cd6 ct6 : Value}
    (a6 : PySem.W.nsIn K mainGlobals "is_word" = some (some (.ref f6))) (l6 : K.lookup f6 = some ⟨oc6, od6, .func (PySem.W.fnOf "is_word" "is_word" (defArgs s_is_word) (defBody s_is_word) (defScope s_is_word) .none kV6 dc6 pm6 an6 cd6 ct6), sl6⟩)
    (c6 : PySem.W.codeIn K cd6 "is_word" = true) (k6 : PySem.W.keepIn K (.ref f6) = true)
    {od7 an7 : Option Addr} {sl7 : Array (Option Value)} {oc7 kV7 dc7 pm7 cd7 ct7 : Value}
    (a7 : PySem.W.nsIn K mainGlobals "must_be_row" = some (some (.ref f7))) (l7 : K.lookup f7 = some ⟨oc7, od7, .func (PySem.W.fnOf "must_be_row" "must_be_row" (defArgs s_must_be_row) (defBody s_must_be_row) (defScope s_must_be_row) .none kV7 dc7 pm7 an7 cd7 ct7), sl7⟩)
    (c7 : PySem.W.codeIn K cd7 "must_be_row" = true) (k7 : PySem.W.keepIn K (.ref f7) = true)
    {od8 an8 : Option Addr} {sl8 : Array (Option Value)} {oc8 kV8 dc8 pm8 cd8 ct8 : Value}
    (a8 : PySem.W.nsIn K mainGlobals "seen_words" = some (some (.ref f8))) (l8 : K.lookup f8 = some ⟨oc8, od8, .func (PySem.W.fnOf "seen_words" "seen_words" (defArgs s_seen_words) (defBody s_seen_words) (defScope s_seen_words) .none kV8 dc8 pm8 an8 cd8 ct8), sl8⟩)
    (c8 : PySem.W.codeIn K cd8 "seen_words" = true) (k8 : PySem.W.keepIn K (.ref f8) = true)
    {od9 an9 : Option Addr} {sl9 : Array (Option Value)} {oc9 kV9 dc9 pm9 cd9 ct9 : Value}
    (a9 : PySem.W.nsIn K mainGlobals "turned_from" = some (some (.ref f9))) (l9 : K.lookup f9 = some ⟨oc9, od9, .func (PySem.W.fnOf "turned_from" "turned_from" (defArgs s_turned_from) (defBody s_turned_from) (defScope s_turned_from) .none kV9 dc9 pm9 an9 cd9 ct9), sl9⟩)
    (c9 : PySem.W.codeIn K cd9 "turned_from" = true) (k9 : PySem.W.keepIn K (.ref f9) = true)
    {od10 an10 : Option Addr} {sl10 : Array (Option Value)} {oc10 kV10 dc10 pm10 cd10 ct10 : Value}
    (a10 : PySem.W.nsIn K mainGlobals "write" = some (some (.ref f10))) (l10 : K.lookup f10 = some ⟨oc10, od10, .func (PySem.W.fnOf "write" "write" (defArgs s_write) (defBody s_write) (defScope s_write) .none kV10 dc10 pm10 an10 cd10 ct10), sl10⟩)
    (c10 : PySem.W.codeIn K cd10 "write" = true) (k10 : PySem.W.keepIn K (.ref f10) = true)
    {od11 an11 : Option Addr} {sl11 : Array (Option Value)} {oc11 kV11 dc11 pm11 cd11 ct11 : Value}
    (a11 : PySem.W.nsIn K mainGlobals "marked" = some (some (.ref f11))) (l11 : K.lookup f11 = some ⟨oc11, od11, .func (PySem.W.fnOf "marked" "marked" (defArgs s_marked) (defBody s_marked) (defScope s_marked) .none kV11 dc11 pm11 an11 cd11 ct11), sl11⟩)
    (c11 : PySem.W.codeIn K cd11 "marked" = true) (k11 : PySem.W.keepIn K (.ref f11) = true)
    {od12 an12 : Option Addr} {sl12 : Array (Option Value)} {oc12 kV12 dc12 pm12 cd12 ct12 : Value}
    (a12 : PySem.W.nsIn K mainGlobals "_law_stir" = some (some (.ref f12))) (l12 : K.lookup f12 = some ⟨oc12, od12, .func (PySem.W.fnOf "_law_stir" "_law_stir" (defArgs s_law_stir) (defBody s_law_stir) (defScope s_law_stir) .none kV12 dc12 pm12 an12 cd12 ct12), sl12⟩)
    (c12 : PySem.W.codeIn K cd12 "_law_stir" = true) (k12 : PySem.W.keepIn K (.ref f12) = true)
    {od13 an13 : Option Addr} {sl13 : Array (Option Value)} {oc13 kV13 dc13 pm13 cd13 ct13 : Value}
    (a13 : PySem.W.nsIn K mainGlobals "_law_cell" = some (some (.ref f13))) (l13 : K.lookup f13 = some ⟨oc13, od13, .func (PySem.W.fnOf "_law_cell" "_law_cell" (defArgs s_law_cell) (defBody s_law_cell) (defScope s_law_cell) .none kV13 dc13 pm13 an13 cd13 ct13), sl13⟩)
    (c13 : PySem.W.codeIn K cd13 "_law_cell" = true) (k13 : PySem.W.keepIn K (.ref f13) = true)
    {od14 an14 : Option Addr} {sl14 : Array (Option Value)} {oc14 kV14 dc14 pm14 cd14 ct14 : Value}
    (a14 : PySem.W.nsIn K mainGlobals "_law_word" = some (some (.ref f14))) (l14 : K.lookup f14 = some ⟨oc14, od14, .func (PySem.W.fnOf "_law_word" "_law_word" (defArgs s_law_word) (defBody s_law_word) (defScope s_law_word) .none kV14 dc14 pm14 an14 cd14 ct14), sl14⟩)
    (c14 : PySem.W.codeIn K cd14 "_law_word" = true) (k14 : PySem.W.keepIn K (.ref f14) = true)
    {od15 an15 : Option Addr} {sl15 : Array (Option Value)} {oc15 kV15 dc15 pm15 cd15 ct15 : Value}
    (a15 : PySem.W.nsIn K mainGlobals "_law_marked" = some (some (.ref f15))) (l15 : K.lookup f15 = some ⟨oc15, od15, .func (PySem.W.fnOf "_law_marked" "_law_marked" (defArgs s_law_marked) (defBody s_law_marked) (defScope s_law_marked) .none kV15 dc15 pm15 an15 cd15 ct15), sl15⟩)
    (c15 : PySem.W.codeIn K cd15 "_law_marked" = true) (k15 : PySem.W.keepIn K (.ref f15) = true)
    {od16 an16 : Option Addr} {sl16 : Array (Option Value)} {oc16 kV16 dc16 pm16 cd16 ct16 : Value}
    (a16 : PySem.W.nsIn K mainGlobals "_law_turned" = some (some (.ref f16))) (l16 : K.lookup f16 = some ⟨oc16, od16, .func (PySem.W.fnOf "_law_turned" "_law_turned" (defArgs s_law_turned) (defBody s_law_turned) (defScope s_law_turned) .none kV16 dc16 pm16 an16 cd16 ct16), sl16⟩)
    (c16 : PySem.W.codeIn K cd16 "_law_turned" = true) (k16 : PySem.W.keepIn K (.ref f16) = true)
    {od17 an17 : Option Addr} {sl17 : Array (Option Value)} {oc17 kV17 dc17 pm17 cd17 ct17 : Value}
    (a17 : PySem.W.nsIn K mainGlobals "_law_is_word" = some (some (.ref f17))) (l17 : K.lookup f17 = some ⟨oc17, od17, .func (PySem.W.fnOf "_law_is_word" "_law_is_word" (defArgs s_law_is_word) (defBody s_law_is_word) (defScope s_law_is_word) .none kV17 dc17 pm17 an17 cd17 ct17), sl17⟩)
    (c17 : PySem.W.codeIn K cd17 "_law_is_word" = true) (k17 : PySem.W.keepIn K (.ref f17) = true)
    {od18 an18 : Option Addr} {sl18 : Array (Option Value)} {oc18 kV18 dc18 pm18 cd18 ct18 : Value}
    (a18 : PySem.W.nsIn K mainGlobals "_law_good" = some (some (.ref f18))) (l18 : K.lookup f18 = some ⟨oc18, od18, .func (PySem.W.fnOf "_law_good" "_law_good" (defArgs s_law_good) (defBody s_law_good) (defScope s_law_good) .none kV18 dc18 pm18 an18 cd18 ct18), sl18⟩)
    (c18 : PySem.W.codeIn K cd18 "_law_good" = true) (k18 : PySem.W.keepIn K (.ref f18) = true)
    {od19 an19 : Option Addr} {sl19 : Array (Option Value)} {oc19 kV19 dc19 pm19 cd19 ct19 : Value}
    (a19 : PySem.W.nsIn K mainGlobals "_law_kinds" = some (some (.ref f19))) (l19 : K.lookup f19 = some ⟨oc19, od19, .func (PySem.W.fnOf "_law_kinds" "_law_kinds" (defArgs s_law_kinds) (defBody s_law_kinds) (defScope s_law_kinds) .none kV19 dc19 pm19 an19 cd19 ct19), sl19⟩)
    (c19 : PySem.W.codeIn K cd19 "_law_kinds" = true) (k19 : PySem.W.keepIn K (.ref f19) = true)
    {od20 an20 : Option Addr} {sl20 : Array (Option Value)} {oc20 kV20 dc20 pm20 cd20 ct20 : Value}
    (a20 : PySem.W.nsIn K mainGlobals "_law_refused" = some (some (.ref f20))) (l20 : K.lookup f20 = some ⟨oc20, od20, .func (PySem.W.fnOf "_law_refused" "_law_refused" (defArgs s_law_refused) (defBody s_law_refused) (defScope s_law_refused) .none kV20 dc20 pm20 an20 cd20 ct20), sl20⟩)
    (c20 : PySem.W.codeIn K cd20 "_law_refused" = true) (k20 : PySem.W.keepIn K (.ref f20) = true)
    {od21 an21 : Option Addr} {sl21 : Array (Option Value)} {oc21 kV21 dc21 pm21 cd21 ct21 : Value}
    (a21 : PySem.W.nsIn K mainGlobals "_law_unwritten" = some (some (.ref f21))) (l21 : K.lookup f21 = some ⟨oc21, od21, .func (PySem.W.fnOf "_law_unwritten" "_law_unwritten" (defArgs s_law_unwritten) (defBody s_law_unwritten) (defScope s_law_unwritten) .none kV21 dc21 pm21 an21 cd21 ct21), sl21⟩)
    (c21 : PySem.W.codeIn K cd21 "_law_unwritten" = true) (k21 : PySem.W.keepIn K (.ref f21) = true)
    {od22 an22 : Option Addr} {sl22 : Array (Option Value)} {oc22 kV22 dc22 pm22 cd22 ct22 : Value}
    (a22 : PySem.W.nsIn K mainGlobals "_law_either" = some (some (.ref f22))) (l22 : K.lookup f22 = some ⟨oc22, od22, .func (PySem.W.fnOf "_law_either" "_law_either" (defArgs s_law_either) (defBody s_law_either) (defScope s_law_either) .none kV22 dc22 pm22 an22 cd22 ct22), sl22⟩)
    (c22 : PySem.W.codeIn K cd22 "_law_either" = true) (k22 : PySem.W.keepIn K (.ref f22) = true)
    {od23 an23 : Option Addr} {sl23 : Array (Option Value)} {oc23 kV23 dc23 pm23 cd23 ct23 : Value}
    (a23 : PySem.W.nsIn K mainGlobals "_law_strange" = some (some (.ref f23))) (l23 : K.lookup f23 = some ⟨oc23, od23, .func (PySem.W.fnOf "_law_strange" "_law_strange" (defArgs s_law_strange) (defBody s_law_strange) (defScope s_law_strange) .none kV23 dc23 pm23 an23 cd23 ct23), sl23⟩)
    (c23 : PySem.W.codeIn K cd23 "_law_strange" = true) (k23 : PySem.W.keepIn K (.ref f23) = true)
    {od24 an24 : Option Addr} {sl24 : Array (Option Value)} {oc24 kV24 dc24 pm24 cd24 ct24 : Value}
    (a24 : PySem.W.nsIn K mainGlobals "_law_spoilt" = some (some (.ref f24))) (l24 : K.lookup f24 = some ⟨oc24, od24, .func (PySem.W.fnOf "_law_spoilt" "_law_spoilt" (defArgs s_law_spoilt) (defBody s_law_spoilt) (defScope s_law_spoilt) .none kV24 dc24 pm24 an24 cd24 ct24), sl24⟩)
    (c24 : PySem.W.codeIn K cd24 "_law_spoilt" = true) (k24 : PySem.W.keepIn K (.ref f24) = true)
    {od25 an25 : Option Addr} {sl25 : Array (Option Value)} {oc25 kV25 dc25 pm25 cd25 ct25 : Value}
    (a25 : PySem.W.nsIn K mainGlobals "_law_small" = some (some (.ref f25))) (l25 : K.lookup f25 = some ⟨oc25, od25, .func (PySem.W.fnOf "_law_small" "_law_small" (defArgs s_law_small) (defBody s_law_small) (defScope s_law_small) .none kV25 dc25 pm25 an25 cd25 ct25), sl25⟩)
    (c25 : PySem.W.codeIn K cd25 "_law_small" = true) (k25 : PySem.W.keepIn K (.ref f25) = true)
    {od26 an26 : Option Addr} {sl26 : Array (Option Value)} {oc26 kV26 dc26 pm26 cd26 ct26 : Value}
    (a26 : PySem.W.nsIn K mainGlobals "law" = some (some (.ref f26))) (l26 : K.lookup f26 = some ⟨oc26, od26, .func (PySem.W.fnOf "law" "law" (defArgs s_law) (defBody s_law) (defScope s_law) .none kV26 dc26 pm26 an26 cd26 ct26), sl26⟩)
    (c26 : PySem.W.codeIn K cd26 "law" = true) (k26 : PySem.W.keepIn K (.ref f26) = true)
    (z0 : PySem.W.nsIn K mainGlobals "len" = some none)
    (z1 : PySem.W.nsIn K mainGlobals "range" = some none)
    (z2 : PySem.W.nsIn K mainGlobals "list" = some none)
    (z3 : PySem.W.nsIn K mainGlobals "tuple" = some none)
    (z4 : PySem.W.nsIn K mainGlobals "isinstance" = some none)
    (z5 : PySem.W.nsIn K mainGlobals "int" = some none)
    (z6 : PySem.W.nsIn K mainGlobals "bool" = some none)
    (z7 : PySem.W.nsIn K mainGlobals "str" = some none)
    (z8 : PySem.W.nsIn K mainGlobals "sum" = some none)
    (z9 : PySem.W.nsIn K mainGlobals "min" = some none)
    (z10 : PySem.W.nsIn K mainGlobals "ValueError" = some none)
    (z11 : PySem.W.nsIn K mainGlobals "reversed" = some none)
    (z12 : PySem.W.nsIn K mainGlobals "zip" = some none)
    (z13 : PySem.W.nsIn K mainGlobals "all" = some none)
    {cTurnError cNoText cNoNest cNoOrder cNoWords cNoTurn cNoNumber cTooMany cNoRow : Addr}
    (gTurnError : PySem.W.nsIn K mainGlobals "TurnError" = some (some (.ref cTurnError)))
    (gNoText : PySem.W.nsIn K mainGlobals "NoText" = some (some (.ref cNoText)))
    (gNoNest : PySem.W.nsIn K mainGlobals "NoNest" = some (some (.ref cNoNest)))
    (gNoOrder : PySem.W.nsIn K mainGlobals "NoOrder" = some (some (.ref cNoOrder)))
    (gNoWords : PySem.W.nsIn K mainGlobals "NoWords" = some (some (.ref cNoWords)))
    (gNoTurn : PySem.W.nsIn K mainGlobals "NoTurn" = some (some (.ref cNoTurn)))
    (gNoNumber : PySem.W.nsIn K mainGlobals "NoNumber" = some (some (.ref cNoNumber)))
    (gTooMany : PySem.W.nsIn K mainGlobals "TooMany" = some (some (.ref cTooMany)))
    (gNoRow : PySem.W.nsIn K mainGlobals "NoRow" = some (some (.ref cNoRow)))
    (x1 : PySem.W.excIn K cNoText bmVE "ValueError.__new__" = true)
    {cdA cdB : ClassData}
    (x2 : PySem.W.clsIn K cNoText = some cdA)
    (x3 : PySem.W.findIn K (.ref cNoText) "__getattribute__" = some (some (.builtin "BaseException.__getattribute__")))
    (x4 : PySem.W.findIn K (.ref cNoText) "__getattr__" = some none)
    (x5 : PySem.W.findIn K (.ref cNoText) "__class__" = some (some (.builtin "object.__class__")))
    (x6 : PySem.W.specialIn K (.builtin "object.__class__") "__get__" = some (some (.builtin "getset_descriptor.__get__")))
    (x7 : PySem.W.takesIn K (.builtin "object.__class__") = some true)
    (x8 : PySem.W.mroIn K cNoText (.type "object") = some true)
    (x9 : PySem.W.mroIn K cNoText (.type "BaseException") = some true)
    (t1 : PySem.W.clsIn K cTurnError = some cdB)
    (t2 : PySem.W.typeIn K (.ref cTurnError) = some (.type "type"))
    (t3 : PySem.W.mroIn K cTurnError (.type "BaseException") = some true)
    (t4 : PySem.W.mroIn K cNoText (.ref cTurnError) = some true)
    (t5 : PySem.W.kitOne K (.ref cNoText) (.type "ValueError") = some true)
    (w0 : PySem.W.kitAny K (.ref cNoText) [.ref cNoOrder, .ref cNoWords, .ref cNoTurn, .ref cNoNumber] = some false)
    (w1 : PySem.W.kitAny K (.ref cNoText) [.ref cTooMany, .ref cNoRow] = some false)
    (v0 : PySem.W.kitOne K (.ref cNoText) (.ref cNoNest) = some false)
    (bx1 : PySem.W.excIn K cNoNest bmVE "ValueError.__new__" = true)
    {cdC cdD : ClassData}
    (bx2 : PySem.W.clsIn K cNoNest = some cdC)
    (bx3 : PySem.W.findIn K (.ref cNoNest) "__getattribute__" = some (some (.builtin "BaseException.__getattribute__")))
    (bx4 : PySem.W.findIn K (.ref cNoNest) "__getattr__" = some none)
    (bx5 : PySem.W.findIn K (.ref cNoNest) "__class__" = some (some (.builtin "object.__class__")))
    (bx6 : PySem.W.specialIn K (.builtin "object.__class__") "__get__" = some (some (.builtin "getset_descriptor.__get__")))
    (bx7 : PySem.W.takesIn K (.builtin "object.__class__") = some true)
    (bx8 : PySem.W.mroIn K cNoNest (.type "object") = some true)
    (bx9 : PySem.W.mroIn K cNoNest (.type "BaseException") = some true)
    (bt1 : PySem.W.clsIn K cTurnError = some cdD)
    (bt2 : PySem.W.typeIn K (.ref cTurnError) = some (.type "type"))
    (bt3 : PySem.W.mroIn K cTurnError (.type "BaseException") = some true)
    (bt4 : PySem.W.mroIn K cNoNest (.ref cTurnError) = some true)
    (bt5 : PySem.W.kitOne K (.ref cNoNest) (.type "ValueError") = some true)
    (bw0 : PySem.W.kitAny K (.ref cNoNest) [.ref cNoOrder, .ref cNoWords, .ref cNoTurn, .ref cNoNumber] = some false)
    (bw1 : PySem.W.kitAny K (.ref cNoNest) [.ref cTooMany, .ref cNoRow] = some false)
    (bv0 : PySem.W.kitOne K (.ref cNoNest) (.ref cNoText) = some false)
    {mw ww w8 : Tok}
    (gM : PySem.W.nsIn K mainGlobals "MOST_WORDS" = some (some (.int 60 mw)))
    (gW : PySem.W.nsIn K mainGlobals "WORD_SIGNS" = some (some (.str wordSigns ww)))
    (gS : PySem.W.nsIn K mainGlobals "MOST_SIGNS" = some (some (.int 8 w8)))
    : ∃ fd : FuncData, (∀ (s : Shared) (v : Value), BindsTo s fd ⟨[v], []⟩ [("script", v)]) ∧ ∀ base : Heap, K.In base → base.Ns mainGlobals mg → FnOk l.prog w K mg base CX0 66 fa fd ["script"] (spLaw K) := by
  have e := hfa.symm.trans (PySem.W.mg_of X G a26)
  cases e
  have F0 := fun_mk (st := s_is_nest) l0 c0 k0
  have b0 := F0.binds (ps := ["thing"]) fun _ _ _ _ _ _ us hl => by obtain ⟨_, rfl⟩ := len_1 hl; rfl
  have m0 := PySem.W.mg_of X G a0
  have F1 := fun_mk (st := s_is_knot) l1 c1 k1
  have b1 := F1.binds (ps := ["thing"]) fun _ _ _ _ _ _ us hl => by obtain ⟨_, rfl⟩ := len_1 hl; rfl
  have m1 := PySem.W.mg_of X G a1
  have F2 := fun_mk (st := s_must_be_nest) l2 c2 k2
  have b2 := F2.binds (ps := ["thing"]) fun _ _ _ _ _ _ us hl => by obtain ⟨_, rfl⟩ := len_1 hl; rfl
  have m2 := PySem.W.mg_of X G a2
  have F3 := fun_mk (st := s_is_of_kind) l3 c3 k3
  have b3 := F3.binds (ps := ["nest", "kind"]) fun _ _ _ _ _ _ us hl => by obtain ⟨_, _, rfl⟩ := len_2 hl; rfl
  have m3 := PySem.W.mg_of X G a3
  have F4 := fun_mk (st := s_count_words) l4 c4 k4
  have b4 := F4.binds (ps := ["nest"]) fun _ _ _ _ _ _ us hl => by obtain ⟨_, rfl⟩ := len_1 hl; rfl
  have m4 := PySem.W.mg_of X G a4
  have F5 := fun_mk (st := s_shared_out) l5 c5 k5
  have b5 := F5.binds (ps := ["nest", "things"]) fun _ _ _ _ _ _ us hl => by obtain ⟨_, _, rfl⟩ := len_2 hl; rfl
  have m5 := PySem.W.mg_of X G a5
  have F6 := fun_mk (st := s_is_word) l6 c6 k6
  have b6 := F6.binds (ps := ["thing"]) fun _ _ _ _ _ _ us hl => by obtain ⟨_, rfl⟩ := len_1 hl; rfl
  have m6 := PySem.W.mg_of X G a6
  have F7 := fun_mk (st := s_must_be_row) l7 c7 k7
  have b7 := F7.binds (ps := ["words"]) fun _ _ _ _ _ _ us hl => by obtain ⟨_, rfl⟩ := len_1 hl; rfl
  have m7 := PySem.W.mg_of X G a7
  have F8 := fun_mk (st := s_seen_words) l8 c8 k8
  have b8 := F8.binds (ps := ["text"]) fun _ _ _ _ _ _ us hl => by obtain ⟨_, rfl⟩ := len_1 hl; rfl
  have m8 := PySem.W.mg_of X G a8
  have F9 := fun_mk (st := s_turned_from) l9 c9 k9
  have b9 := F9.binds (ps := ["row", "first"]) fun _ _ _ _ _ _ us hl => by obtain ⟨_, _, rfl⟩ := len_2 hl; rfl
  have m9 := PySem.W.mg_of X G a9
  have F10 := fun_mk (st := s_write) l10 c10 k10
  have b10 := F10.binds (ps := ["words", "nest"]) fun _ _ _ _ _ _ us hl => by obtain ⟨_, _, rfl⟩ := len_2 hl; rfl
  have m10 := PySem.W.mg_of X G a10
  have F11 := fun_mk (st := s_marked) l11 c11 k11
  have b11 := F11.binds (ps := ["nest", "words"]) fun _ _ _ _ _ _ us hl => by obtain ⟨_, _, rfl⟩ := len_2 hl; rfl
  have m11 := PySem.W.mg_of X G a11
  have F12 := fun_mk (st := s_law_stir) l12 c12 k12
  have b12 := F12.binds (ps := ["cell", "k"]) fun _ _ _ _ _ _ us hl => by obtain ⟨_, _, rfl⟩ := len_2 hl; rfl
  have m12 := PySem.W.mg_of X G a12
  have F13 := fun_mk (st := s_law_cell) l13 c13 k13
  have b13 := F13.binds (ps := ["script", "k"]) fun _ _ _ _ _ _ us hl => by obtain ⟨_, _, rfl⟩ := len_2 hl; rfl
  have m13 := PySem.W.mg_of X G a13
  have F14 := fun_mk (st := s_law_word) l14 c14 k14
  have b14 := F14.binds (ps := ["cell"]) fun _ _ _ _ _ _ us hl => by obtain ⟨_, rfl⟩ := len_1 hl; rfl
  have m14 := PySem.W.mg_of X G a14
  have F15 := fun_mk (st := s_law_marked) l15 c15 k15
  have b15 := F15.binds (ps := ["script", "first", "many"]) fun _ _ _ _ _ _ us hl => by obtain ⟨_, _, _, rfl⟩ := len_3 hl; rfl
  have m15 := PySem.W.mg_of X G a15
  have F16 := fun_mk (st := s_law_turned) l16 c16 k16
  have b16 := F16.binds (ps := ["parts"]) fun _ _ _ _ _ _ us hl => by obtain ⟨_, rfl⟩ := len_1 hl; rfl
  have m16 := PySem.W.mg_of X G a16
  have F17 := fun_mk (st := s_law_is_word) l17 c17 k17
  have b17 := F17.binds (ps := ["part"]) fun _ _ _ _ _ _ us hl => by obtain ⟨_, rfl⟩ := len_1 hl; rfl
  have m17 := PySem.W.mg_of X G a17
  have F18 := fun_mk (st := s_law_good) l18 c18 k18
  have b18 := F18.binds (ps := ["parts"]) fun _ _ _ _ _ _ us hl => by obtain ⟨_, rfl⟩ := len_1 hl; rfl
  have m18 := PySem.W.mg_of X G a18
  have F19 := fun_mk (st := s_law_kinds) l19 c19 k19
  have b19 := F19.binds (ps := ["e"]) fun _ _ _ _ _ _ us hl => by obtain ⟨_, rfl⟩ := len_1 hl; rfl
  have m19 := PySem.W.mg_of X G a19
  have F20 := fun_mk (st := s_law_refused) l20 c20 k20
  have b20 := F20.binds (ps := ["text"]) fun _ _ _ _ _ _ us hl => by obtain ⟨_, rfl⟩ := len_1 hl; rfl
  have m20 := PySem.W.mg_of X G a20
  have F21 := fun_mk (st := s_law_unwritten) l21 c21 k21
  have b21 := F21.binds (ps := ["words", "nest", "way"]) fun _ _ _ _ _ _ us hl => by obtain ⟨_, _, _, rfl⟩ := len_3 hl; rfl
  have m21 := PySem.W.mg_of X G a21
  have F22 := fun_mk (st := s_law_either) l22 c22 k22
  have b22 := F22.binds (ps := ["text"]) fun _ _ _ _ _ _ us hl => by obtain ⟨_, rfl⟩ := len_1 hl; rfl
  have m22 := PySem.W.mg_of X G a22
  have F23 := fun_mk (st := s_law_strange) l23 c23 k23
  have b23 := F23.binds (ps := ["cell"]) fun _ _ _ _ _ _ us hl => by obtain ⟨_, rfl⟩ := len_1 hl; rfl
  have m23 := PySem.W.mg_of X G a23
  have F24 := fun_mk (st := s_law_spoilt) l24 c24 k24
  have b24 := F24.binds (ps := ["parts", "cell"]) fun _ _ _ _ _ _ us hl => by obtain ⟨_, _, rfl⟩ := len_2 hl; rfl
  have m24 := PySem.W.mg_of X G a24
  have F25 := fun_mk (st := s_law_small) l25 c25 k25
  have b25 := F25.binds (ps := ["cell"]) fun _ _ _ _ _ _ us hl => by obtain ⟨_, rfl⟩ := len_1 hl; rfl
  have m25 := PySem.W.mg_of X G a25
  have F26 := fun_mk (st := s_law) l26 c26 k26
  have y0 := PySem.W.mg_none_of X G z0
  have y1 := PySem.W.mg_none_of X G z1
  have y2 := PySem.W.mg_none_of X G z2
  have y3 := PySem.W.mg_none_of X G z3
  have y4 := PySem.W.mg_none_of X G z4
  have y5 := PySem.W.mg_none_of X G z5
  have y6 := PySem.W.mg_none_of X G z6
  have y7 := PySem.W.mg_none_of X G z7
  have y8 := PySem.W.mg_none_of X G z8
  have y9 := PySem.W.mg_none_of X G z9
  have y10 := PySem.W.mg_none_of X G z10
  have y11 := PySem.W.mg_none_of X G z11
  have y12 := PySem.W.mg_none_of X G z12
  have y13 := PySem.W.mg_none_of X G z13
  have Z : ExcL K cTurnError cNoText := ⟨x1, ⟨by rw [x2]; rfl, x3, x4, x5, x6, x7, x8, x9⟩, ⟨by rw [t1]; rfl, t2, t3⟩, t4, t5⟩
  have mTurnError := PySem.W.mg_of X G gTurnError
  have mNoText := PySem.W.mg_of X G gNoText
  have mNoNest := PySem.W.mg_of X G gNoNest
  have mNoOrder := PySem.W.mg_of X G gNoOrder
  have mNoWords := PySem.W.mg_of X G gNoWords
  have mNoTurn := PySem.W.mg_of X G gNoTurn
  have mNoNumber := PySem.W.mg_of X G gNoNumber
  have mTooMany := PySem.W.mg_of X G gTooMany
  have mNoRow := PySem.W.mg_of X G gNoRow
  have Z2 : ExcL K cTurnError cNoNest := ⟨bx1, ⟨by rw [bx2]; rfl, bx3, bx4, bx5, bx6, bx7, bx8, bx9⟩, ⟨by rw [bt1]; rfl, bt2, bt3⟩, bt4, bt5⟩
  have mM := PySem.W.mg_of X G gM
  have mW := PySem.W.mg_of X G gW
  have mS := PySem.W.mg_of X G gS
  have D_is_nest : Def K mg "is_nest" s_is_nest ["thing"] := ⟨f0, _, F0, k0, m0, b0⟩
  have D_is_knot : Def K mg "is_knot" s_is_knot ["thing"] := ⟨f1, _, F1, k1, m1, b1⟩
  have D_must_be_nest : Def K mg "must_be_nest" s_must_be_nest ["thing"] := ⟨f2, _, F2, k2, m2, b2⟩
  have D_is_of_kind : Def K mg "is_of_kind" s_is_of_kind ["nest", "kind"] := ⟨f3, _, F3, k3, m3, b3⟩
  have D_count_words : Def K mg "count_words" s_count_words ["nest"] := ⟨f4, _, F4, k4, m4, b4⟩
  have D_shared_out : Def K mg "shared_out" s_shared_out ["nest", "things"] := ⟨f5, _, F5, k5, m5, b5⟩
  have D_is_word : Def K mg "is_word" s_is_word ["thing"] := ⟨f6, _, F6, k6, m6, b6⟩
  have D_must_be_row : Def K mg "must_be_row" s_must_be_row ["words"] := ⟨f7, _, F7, k7, m7, b7⟩
  have D_seen_words : Def K mg "seen_words" s_seen_words ["text"] := ⟨f8, _, F8, k8, m8, b8⟩
  have D_turned_from : Def K mg "turned_from" s_turned_from ["row", "first"] := ⟨f9, _, F9, k9, m9, b9⟩
  have D_write : Def K mg "write" s_write ["words", "nest"] := ⟨f10, _, F10, k10, m10, b10⟩
  have D_marked : Def K mg "marked" s_marked ["nest", "words"] := ⟨f11, _, F11, k11, m11, b11⟩
  have D_law_stir : Def K mg "_law_stir" s_law_stir ["cell", "k"] := ⟨f12, _, F12, k12, m12, b12⟩
  have D_law_cell : Def K mg "_law_cell" s_law_cell ["script", "k"] := ⟨f13, _, F13, k13, m13, b13⟩
  have D_law_word : Def K mg "_law_word" s_law_word ["cell"] := ⟨f14, _, F14, k14, m14, b14⟩
  have D_law_marked : Def K mg "_law_marked" s_law_marked ["script", "first", "many"] := ⟨f15, _, F15, k15, m15, b15⟩
  have D_law_turned : Def K mg "_law_turned" s_law_turned ["parts"] := ⟨f16, _, F16, k16, m16, b16⟩
  have D_law_is_word : Def K mg "_law_is_word" s_law_is_word ["part"] := ⟨f17, _, F17, k17, m17, b17⟩
  have D_law_good : Def K mg "_law_good" s_law_good ["parts"] := ⟨f18, _, F18, k18, m18, b18⟩
  have D_law_kinds : Def K mg "_law_kinds" s_law_kinds ["e"] := ⟨f19, _, F19, k19, m19, b19⟩
  have D_law_refused : Def K mg "_law_refused" s_law_refused ["text"] := ⟨f20, _, F20, k20, m20, b20⟩
  have D_law_unwritten : Def K mg "_law_unwritten" s_law_unwritten ["words", "nest", "way"] := ⟨f21, _, F21, k21, m21, b21⟩
  have D_law_either : Def K mg "_law_either" s_law_either ["text"] := ⟨f22, _, F22, k22, m22, b22⟩
  have D_law_strange : Def K mg "_law_strange" s_law_strange ["cell"] := ⟨f23, _, F23, k23, m23, b23⟩
  have D_law_spoilt : Def K mg "_law_spoilt" s_law_spoilt ["parts", "cell"] := ⟨f24, _, F24, k24, m24, b24⟩
  have D_law_small : Def K mg "_law_small" s_law_small ["cell"] := ⟨f25, _, F25, k25, m25, b25⟩
  have T : Txt mg := ⟨⟨y0, y1, y2, y3, y4, y5, y6⟩, y7, y8, y9, y10, y11, y12, y13⟩
  have fin : ∀ base : Heap, FnOk l.prog w K mg base CX0 66 fa _ ["script"] (spLaw K) := fun base =>
    have ZK : KindOf K cNoText cNoNest cNoOrder cNoWords cNoTurn cNoNumber cTooMany cNoRow cNoText true false := ⟨Z.tx, kit_refl _ _, v0, Z.ve, w0, w1⟩
    have ZN : KindOf K cNoText cNoNest cNoOrder cNoWords cNoTurn cNoNumber cTooMany cNoRow cNoNest false true := ⟨Z2.tx, bv0, kit_refl _ _, Z2.ve, bw0, bw1⟩
    have GC := has_cell D_law_cell D_law_stir T
    have GR := ok_mustrow D_must_be_row T (ok_word D_is_word T mW mS) mM mNoText x1
    have GW := ok_write D_write T (has_must D_is_nest D_is_knot D_must_be_nest T mM mNoNest bx1) (has_countw D_count_words T 60) GR (ok_marked D_marked T (has_countw D_count_words T) D_shared_out 60) (ok_ofkind D_is_of_kind) mNoText x1
    have GS := ok_seenw D_seen_words T (ok_turnedf D_turned_from T mNoText x1) GR mNoText x1
    have GL := ok_lword D_law_word T
    have GK := ok_lkinds D_law_kinds T mNoText mNoNest mNoOrder mNoWords mNoTurn mNoNumber mTooMany mNoRow
    have GF := ok_refused D_law_refused T Z ZK GS GK mTurnError
    have GT := ok_strange D_law_strange T
    ok_law F26 T GC GL (ok_lmarked D_law_marked T GL) (ok_leither D_law_either T (ok_lgood D_law_good T (ok_lisw D_law_is_word T)) GF GS (ok_lturned D_law_turned T)) (ok_spoilt D_law_spoilt T GL GT) (ok_small D_law_small T) GS GF GT (ok_unw D_law_unwritten T Z Z2 ZK ZN GW GK mTurnError) GW
  exact ⟨PySem.W.fnOf "law" "law" (defArgs s_law) (defBody s_law) (defScope s_law) .none kV26 dc26 pm26 an26 cd26 ct26, fun s v => .of_eq rfl, fun base _ _ => fin base⟩
theorem walk {l : PySem.W.OpenLaw} {q : Program} {loose : List Str} {XP : (Str → Option Value) → Heap → Prop} {YP : World → Heap → Prop} {d : DefRec} {K : Params → PySem.W.Frag} (hn : l.most = some 63) (hdf : d.params.defaults = [])
    (hY : ∀ (w : World) (h : Heap), YP w h → (K w.params).In h)
    (F : ∀ (w : World) (mg : Str → Option Value) (fa : Addr) (h : Heap), (K w.params).In h → h.Ns mainGlobals mg → mg d.name = some (.ref fa) → ∃ fd : FuncData, (∀ (s : Shared) (u : Value), BindsTo s fd ⟨[u], []⟩ [("script", u)]) ∧ ∀ base : Heap, (K w.params).In base → base.Ns mainGlobals mg → FnOk l.prog w (K w.params) mg base CX0 66 fa fd ["script"] (spLaw (K w.params))) :
    PySem.W.WalkO q loose XP YP l.row.toRowW d [] (fun f vs => PySem.call f vs) :=
  L2.walk_of (n := 63) (k := 66) (x := "script") (CX := fun _ => CX0) (sp := fun w => spLaw (K w.params)) hn (by decide) hdf ⟨rfl, by decide, by decide, rfl⟩ hY F (fun _ _ a ns hl _ hS => ⟨a, ns, rfl, hS, hl, fun _ => rfl⟩) fun _ _ _ _ _ z => z
end K72
open PySem PySem.W PyProof.Rows
set_option maxRecDepth 100000 in
set_option maxHeartbeats 0 in
theorem PySem.Challenge.cw_turnnest_k72_marked_texts_refused_holds : PySem.Challenge.rw_turnnest_k72_marked_texts_refused.Holds := by
  w_on; o_law; k_head; (case hw => w_witness2)
  k_fill
  refine K72.walk (l := PySem.Challenge.rw_turnnest_k72_marked_texts_refused) rfl rfl (fun w h Y => PySem.W.kIn_of Y) ?F
  case F =>
    intro w mg fa h KX G hmg
    refine' K72.all_mk KX G hmg ?a0 ?l0 ?c0 ?k0 ?a1 ?l1 ?c1 ?k1 ?a2 ?l2 ?c2 ?k2 ?a3 ?l3 ?c3 ?k3 ?a4 ?l4 ?c4 ?k4 ?a5 ?l5 ?c5 ?k5 ?a6 ?l6 ?c6 ?k6 ?a7 ?l7 ?c7 ?k7 ?a8 ?l8 ?c8 ?k8 ?a9 ?l9 ?c9 ?k9 ?a10 ?l10 ?c10 ?k10 ?a11 ?l11 ?c11 ?k11 ?a12 ?l12 ?c12 ?k12 ?a13 ?l13 ?c13 ?k13 ?a14 ?l14 ?c14 ?k14 ?a15 ?l15 ?c15 ?k15 ?a16 ?l16 ?c16 ?k16 ?a17 ?l17 ?c17 ?k17 ?a18 ?l18 ?c18 ?k18 ?a19 ?l19 ?c19 ?k19 ?a20 ?l20 ?c20 ?k20 ?a21 ?l21 ?c21 ?k21 ?a22 ?l22 ?c22 ?k22 ?a23 ?l23 ?c23 ?k23 ?a24 ?l24 ?c24 ?k24 ?a25 ?l25 ?c25 ?k25 ?a26 ?l26 ?c26 ?k26 ?z0 ?z1 ?z2 ?z3 ?z4 ?z5 ?z6 ?z7 ?z8 ?z9 ?z10 ?z11 ?z12 ?z13 ?gTurnError ?gNoText ?gNoNest ?gNoOrder ?gNoWords ?gNoTurn ?gNoNumber ?gTooMany ?gNoRow ?x1 ?x2 ?x3 ?x4 ?x5 ?x6 ?x7 ?x8 ?x9 ?t1 ?t2 ?t3 ?t4 ?t5 ?w0 ?w1 ?v0 ?bx1 ?bx2 ?bx3 ?bx4 ?bx5 ?bx6 ?bx7 ?bx8 ?bx9 ?bt1 ?bt2 ?bt3 ?bt4 ?bt5 ?bw0 ?bw1 ?bv0 ?gM ?gW ?gS
    (case a0 => k_is)
    (case l0 => k_is)
    (case c0 => k_is)
    (case k0 => k_is)
    (case a1 => k_is)
    (case l1 => k_is)
    (case c1 => k_is)
    (case k1 => k_is)
    (case a2 => k_is)
    (case l2 => k_is)
    (case c2 => k_is)
    (case k2 => k_is)
    (case a3 => k_is)
    (case l3 => k_is)
    (case c3 => k_is)
    (case k3 => k_is)
    (case a4 => k_is)
    (case l4 => k_is)
    (case c4 => k_is)
    (case k4 => k_is)
    (case a5 => k_is)
    (case l5 => k_is)
    (case c5 => k_is)
    (case k5 => k_is)
    (case a6 => k_is)
    (case l6 => k_is)
    (case c6 => k_is)
    (case k6 => k_is)
    (case a7 => k_is)
    (case l7 => k_is)
    (case c7 => k_is)
    (case k7 => k_is)
    (case a8 => k_is)
    (case l8 => k_is)
    (case c8 => k_is)
    (case k8 => k_is)
    (case a9 => k_is)
    (case l9 => k_is)
    (case c9 => k_is)
    (case k9 => k_is)
    (case a10 => k_is)
    (case l10 => k_is)
    (case c10 => k_is)
    (case k10 => k_is)
    (case a11 => k_is)
    (case l11 => k_is)
    (case c11 => k_is)
    (case k11 => k_is)
    (case a12 => k_is)
    (case l12 => k_is)
    (case c12 => k_is)
    (case k12 => k_is)
    (case a13 => k_is)
    (case l13 => k_is)
    (case c13 => k_is)
    (case k13 => k_is)
    (case a14 => k_is)
    (case l14 => k_is)
    (case c14 => k_is)
    (case k14 => k_is)
    (case a15 => k_is)
    (case l15 => k_is)
    (case c15 => k_is)
    (case k15 => k_is)
    (case a16 => k_is)
    (case l16 => k_is)
    (case c16 => k_is)
    (case k16 => k_is)
    (case a17 => k_is)
    (case l17 => k_is)
    (case c17 => k_is)
    (case k17 => k_is)
    (case a18 => k_is)
    (case l18 => k_is)
    (case c18 => k_is)
    (case k18 => k_is)
    (case a19 => k_is)
    (case l19 => k_is)
    (case c19 => k_is)
    (case k19 => k_is)
    (case a20 => k_is)
    (case l20 => k_is)
    (case c20 => k_is)
    (case k20 => k_is)
    (case a21 => k_is)
    (case l21 => k_is)
    (case c21 => k_is)
    (case k21 => k_is)
    (case a22 => k_is)
    (case l22 => k_is)
    (case c22 => k_is)
    (case k22 => k_is)
    (case a23 => k_is)
    (case l23 => k_is)
    (case c23 => k_is)
    (case k23 => k_is)
    (case a24 => k_is)
    (case l24 => k_is)
    (case c24 => k_is)
    (case k24 => k_is)
    (case a25 => k_is)
    (case l25 => k_is)
    (case c25 => k_is)
    (case k25 => k_is)
    (case a26 => k_is)
    (case l26 => k_is)
    (case c26 => k_is)
    (case k26 => k_is)
    (case z0 => k_is)
    (case z1 => k_is)
    (case z2 => k_is)
    (case z3 => k_is)
    (case z4 => k_is)
    (case z5 => k_is)
    (case z6 => k_is)
    (case z7 => k_is)
    (case z8 => k_is)
    (case z9 => k_is)
    (case z10 => k_is)
    (case z11 => k_is)
    (case z12 => k_is)
    (case z13 => k_is)
    (case gTurnError => k_is)
    (case gNoText => k_is)
    (case gNoNest => k_is)
    (case gNoOrder => k_is)
    (case gNoWords => k_is)
    (case gNoTurn => k_is)
    (case gNoNumber => k_is)
    (case gTooMany => k_is)
    (case gNoRow => k_is)
    (case x1 => k_exc)
    (case x2 => k_is)
    (case x3 => k_is)
    (case x4 => k_is)
    (case x5 => k_is)
    (case x6 => k_is)
    (case x7 => k_is)
    (case x8 => k_is)
    (case x9 => k_is)
    (case t1 => k_is)
    (case t2 => k_is)
    (case t3 => k_is)
    (case t4 => k_is)
    (case t5 => first | kit_is | k_is)
    (case w0 => first | kit_is | k_is)
    (case w1 => first | kit_is | k_is)
    (case v0 => first | kit_is | k_is)
    (case bx1 => k_exc)
    (case bx2 => k_is)
    (case bx3 => k_is)
    (case bx4 => k_is)
    (case bx5 => k_is)
    (case bx6 => k_is)
    (case bx7 => k_is)
    (case bx8 => k_is)
    (case bx9 => k_is)
    (case bt1 => k_is)
    (case bt2 => k_is)
    (case bt3 => k_is)
    (case bt4 => k_is)
    (case bt5 => first | kit_is | k_is)
    (case bw0 => first | kit_is | k_is)
    (case bw1 => first | kit_is | k_is)
    (case bv0 => first | kit_is | k_is)
    (case gM => k_is)
    (case gW => k_is)
    (case gS => k_is)
