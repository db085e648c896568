import PyProof.Rows.All
import Wide.All
import OpenK.AllK
import Wide.FinOn
import Lean
import PyProof.EqAt
import PyProof.EqKinds
import PyProof.TupleCall
import PyProof.NsDelKeeps
import PyProof.NeKinds
import PyProof.ListRange
import PyProof.SumWalkG
import PyProof.WalkInts
import PyProof.SeqI3
import KE.KUnpack
import PyProof.ReprRoads
import PySem.Challenge.RW_turnnest_k83_whole_changed_word_by_word
set_option Elab.async false
set_option linter.all false
set_option maxRecDepth 100000
def PySem.W.Fast.tw17005306961027806139 : Unit := ()
def PySem.W.Fast.tw8804666857757324524 : Unit := ()
def PySem.W.Fast.tw7846687157969671177 : Unit := ()
def PySem.W.Fast.tw10804927337199329558 : Unit := ()
def PySem.W.Fast.tw10156609768616847964 : Unit := ()
def PySem.W.Fast.tw16126616876121750095 : Unit := ()
local macro_rules | `(tactic| omega) => `(tactic| first | lia | omega (config := {}))
namespace L2
open PySem PySem.Spec PyProof.Rows
abbrev Key := Sum Int Str
def keyIs : Key → Value → Bool
  | .inl k, v => Value.isInt k v
  | .inr x, v => Value.isStrOf x v
def keyH (w : World) : Key → Int
  | .inl k => hashInt k
  | .inr x => hashStr w x
theorem keyIs_shape : ∀ {k : Key} {v : Value}, keyIs k v = true → (∃ i t, k = Sum.inl i ∧ v = Value.int i t) ∨ (∃ x t, k = Sum.inr x ∧ v = Value.str x t)
  | .inl i, v, h => by
    obtain ⟨t, e⟩ := Value.isInt_shape (k := i) (v := v) h
    exact .inl ⟨i, t, rfl, e⟩
  | .inr x, v, h => by
    obtain ⟨t, e⟩ := Value.isStrOf_shape (x := x) (v := v) h
    exact .inr ⟨x, t, rfl, e⟩
theorem keyIs_int (i : Int) (t : Tok) : keyIs (.inl i) (.int i t) = true := by simp [keyIs, Value.isInt]
theorem keyIs_str (x : Str) (t : Tok) : keyIs (.inr x) (.str x t) = true := by simp [keyIs, Value.isStrOf]
theorem key_ll (a b : Int) : decide ((Sum.inl a : Key) = Sum.inl b) = (a == b) := by
  by_cases e : a = b
  · subst e; simp
  · have h : ¬ (Sum.inl a : Key) = Sum.inl b := fun q => e (Sum.inl.inj q)
    rw [decide_eq_false h]
    exact (beq_eq_false_iff_ne.mpr e).symm
theorem key_rr (a b : Str) : decide ((Sum.inr a : Key) = Sum.inr b) = decide (a = b) := by
  by_cases e : a = b
  · subst e; simp
  · have h : ¬ (Sum.inr a : Key) = Sum.inr b := fun q => e (Sum.inr.inj q)
    rw [decide_eq_false h, decide_eq_false e]
theorem key_lr (a : Int) (b : Str) : decide ((Sum.inl a : Key) = Sum.inr b) = false := decide_eq_false (fun q => nomatch q)
theorem key_rl (a : Str) (b : Int) : decide ((Sum.inr a : Key) = Sum.inl b) = false := decide_eq_false (fun q => nomatch q)
def mixKind (prog : Program) (w : World) : PySem.KeyKind prog w Key where
  is := keyIs
  hash := keyH w
  inj := fun v a b ha hb => by
    rcases keyIs_shape ha with ⟨i, t, rfl, rfl⟩ | ⟨x, t, rfl, rfl⟩
    · rcases keyIs_shape hb with ⟨j, u, rfl, e⟩ | ⟨y, u, rfl, e⟩
      · injection e with e1 _; rw [e1]
      · exact nomatch e
    · rcases keyIs_shape hb with ⟨j, u, rfl, e⟩ | ⟨y, u, rfl, e⟩
      · exact nomatch e
      · injection e with e1 _; rw [e1]
  byValue := fun k v h => by
    rcases keyIs_shape h with ⟨i, t, rfl, rfl⟩ | ⟨x, t, rfl, rfl⟩ <;> rfl
  pyHash := fun hv h => by
    rcases keyIs_shape hv with ⟨i, t, rfl, rfl⟩ | ⟨x, t, rfl, rfl⟩
    · exact wpAny_pyHash_int h
    · exact wpAny_pyHash_str h
  eqBool := fun hu hv h => by
    rcases keyIs_shape hu with ⟨i, t, rfl, rfl⟩ | ⟨x, t, rfl, rfl⟩
    · rcases keyIs_shape hv with ⟨j, u, rfl, rfl⟩ | ⟨y, u, rfl, rfl⟩
      · rw [key_ll] at h; exact wpAny_eqBool_int h
      · rw [key_lr] at h; exact SeqAt.EqAt.int_str i t y u _ _ _ _ h
    · rcases keyIs_shape hv with ⟨j, u, rfl, rfl⟩ | ⟨y, u, rfl, rfl⟩
      · rw [key_rl] at h; exact SeqAt.EqAt.str_int x t j u _ _ _ _ h
      · rw [key_rr] at h; exact wpAny_eqBool_str h
  «strs» := fun k x t v h => by
    rcases keyIs_shape h with ⟨i, u, rfl, e⟩ | ⟨y, u, rfl, e⟩
    · exact nomatch e
    · injection e with e1 _
      subst e1
      cases v <;> rfl
theorem mixKind_int (prog : Program) (w : World) (i : Int) (t : Tok) : (mixKind prog w).is (.inl i) (.int i t) = true := keyIs_int i t
theorem mixKind_str (prog : Program) (w : World) (x : Str) (t : Tok) : (mixKind prog w).is (.inr x) (.str x t) = true := keyIs_str x t
end L2
namespace L2
open PySem PySem.Spec PyProof.Rows
inductive V where
  | non | bl (b : Bool) | int (i : Int) | str (x : Str) | byt (b : Array UInt8) | flt (b : UInt64) | ref (a : Addr) | ty (n : String)
  deriving DecidableEq
def RelV : V → Value → Prop
  | .non, u => u = Value.none
  | .bl b, u => u = Value.bool b
  | .int i, u => ∃ t, u = Value.int i t
  | .str x, u => ∃ t, u = Value.str x t
  | .byt b, u => ∃ t, u = Value.bytes b t
  | .flt b, u => ∃ t, u = Value.float b t
  | .ref a, u => u = Value.ref a
  | .ty n, u => u = Value.type n
abbrev Vals : List V → List Value → Prop := Paired RelV
theorem Vals.length {xs : List V} {us : List Value} (r : Vals xs us) : xs.length = us.length := Paired.length r
theorem Vals.get : ∀ {xs : List V} {us : List Value} {i : Nat} {x : V}, Vals xs us → xs[i]? = some x → ∃ u, us[i]? = some u ∧ RelV x u
  | _, _, _, _, .nil, e => by simp at e
  | _, _, 0, _, .cons r _, e => by simp at e; subst e; exact ⟨_, rfl, r⟩
  | _, _, i + 1, x, .cons _ t, e => by
    obtain ⟨u, h1, h2⟩ := Vals.get (i := i) (x := x) t (by simpa using e)
    exact ⟨u, by simpa using h1, h2⟩
theorem Vals.append : ∀ {xs ys : List V} {us ws : List Value}, Vals xs us → Vals ys ws → Vals (xs ++ ys) (us ++ ws)
  | _, _, _, _, .nil, s => s
  | _, _, _, _, .cons r t, s => .cons r (Vals.append t s)
theorem Vals.take : ∀ {xs : List V} {us : List Value} (n : Nat), Vals xs us → Vals (xs.take n) (us.take n)
  | _, _, 0, _ => .nil
  | _, _, _ + 1, .nil => .nil
  | _, _, n + 1, .cons r t => .cons r (Vals.take n t)
theorem Vals.drop : ∀ {xs : List V} {us : List Value} (n : Nat), Vals xs us → Vals (xs.drop n) (us.drop n)
  | _, _, 0, r => r
  | _, _, _ + 1, .nil => .nil
  | _, _, n + 1, .cons _ t => Vals.drop n t
def RelO : Option V → Option Value → Prop
  | some v, some u => RelV v u
  | none, none => True
  | _, _ => False
def KV {κ : Type} : List (κ × V) → List (κ × Value) → Prop := Paired fun (p : κ × V) (q : κ × Value) => p.1 = q.1 ∧ RelV p.2 q.2
def kV : Key → V
  | .inl i => .int i
  | .inr x => .str x
def IsTupN (h : Heap) (a : Addr) (items : Array Value) : Prop := ∃ o, h.get? a = some o ∧ o.cls = .type "tuple" ∧ (∃ n, o.data = .seq items n) ∧ o.dict = none
theorem IsTupN.tup {h : Heap} {a : Addr} {items : Array Value} (x : IsTupN h a items) : IsTup h a items := let ⟨o, e, c, d, _⟩ := x; ⟨o, e, c, d⟩
theorem IsTupN.new (h : Heap) (items : Array Value) : IsTupN (h.push { cls := .type "tuple", data := .seq items }) h.objs.size items := ⟨_, Heap.get?_push_size _ rfl, rfl, ⟨_, rfl⟩, rfl⟩
inductive HO where
  | lst (xs : List V)
  | tup (xs : List V)
  | dK (kvs : List (Key × V)) | dT (kvs : List (List Key × V))
  | set (S : Int → Bool) (n : Nat)
  | ins (C dx : Addr) (fs : List (Str × V))
  | own (x : Addr)
  | xd (fs : List (Str × V))
  | met (f x : Addr)
  | rng (lo hi : Int)
  | frz (o : Obj) (u : HO)
  | tbl (ps : Array Value)
  | lam (q : Str)
  | ext (φ : Heap → Prop)
abbrev Hp := Addr → Option HO
def upd (H : Hp) (a : Addr) (o : HO) : Hp := fun b => if b = a then some o else H b
theorem upd_same {H : Hp} {a : Addr} {o : HO} : upd H a o a = some o := by unfold upd; rw [if_pos rfl]
theorem upd_ne {H : Hp} {a b : Addr} {o : HO} (h : b ≠ a) : upd H a o b = H b := by unfold upd; rw [if_neg h]
theorem upd_upd {H : Hp} {a : Addr} {o u : HO} : upd (upd H a o) a u = upd H a u := by
  funext b; unfold upd; split <;> rfl
theorem ne_of {H : Hp} {a b : Addr} {o u : HO} (h : H a = some o) (h' : H b = some u) (d : o ≠ u) : a ≠ b := by
  intro e; subst e; rw [h] at h'; exact d (Option.some.inj h')
theorem ne_of_none {H : Hp} {a b : Addr} {o : HO} (h : H a = some o) (h' : H b = none) : a ≠ b := by
  intro e; subst e; rw [h] at h'; cases h'
section
variable (P : Program) (w : World)
def ObjOk (H : Hp) (h : Heap) (a : Addr) : HO → Prop
  | .lst xs => xs.length ≤ sizeLine ∧ ∃ (its : List Value) (n : Nat), Vals xs its ∧ h.get? a = some { cls := .type "list", data := .seq its.toArray n }
  | .tup xs => xs.length ≤ sizeLine ∧ ∃ its : List Value, Vals xs its ∧ IsTupN h a its.toArray
  | .dK kvs => kvs.length ≤ sizeLine ∧ (a == sysModules) = false ∧ ∃ vs, KV kvs vs ∧ h.DictOf (mixKind P w) a vs
  | .dT kvs => kvs.length ≤ sizeLine ∧ (a == sysModules) = false ∧ ∃ xs : List (List Key × Addr × Value),
      Paired (fun (p : List Key × V) (q : List Key × Addr × Value) => p.1 = q.1 ∧ H q.2.1 = some (.tup (p.1.map kV)) ∧ RelV p.2 q.2.2) kvs xs ∧
      ∃ o es ep, h.get? a = some o ∧ o.ExactDict ∧ o.data = .dict es ep ∧ es.toList = xs.map (entryOfKey (tupleKind (mixKind P w))) ∧ (xs.map (·.1)).Nodup
  | .set S n => h.SetOf (intKind P w) a S n
  | .ins C dx fs => H dx = some (.own a) ∧ fs.length ≤ 1000 ∧ dx ≠ a ∧ h.get? a = some (PySem.W.instObj C dx) ∧
      ∃ mA, h.Ns1 dx mA ∧ (∀ f, RelO (fs.lookup f) (mA f)) ∧ PySem.Within mA (fs.map (·.1))
  | .own _ => ∃ o, h.get? a = some o
  | .xd fs => ∃ mA, h.Ns1 a mA ∧ ∀ f, RelO (fs.lookup f) (mA f)
  | .rng lo hi => ∃ t u v, h.get? a = some { cls := .type "range", data := .fields #[.int lo t, .int hi u, .int 1 v] }
  | .frz o u => h.get? a = some o ∧ ObjOk H h a u
  | .tbl ps => h.get? a = some { cls := .none, data := .fields ps }
  | .lam q => ∃ ps : Array Value, h.get? a = some { cls := .none, data := .fields ps } ∧ TriplesOk ps.toList ∧ ∀ (pos : Pos) (cv : Value), codeAmong pos ps.toList = some cv →
      ∃ (c : Addr) (oc : Obj) (fv : Array Value) (t : Tok), cv = .ref c ∧ H c = some (.frz oc (.own c)) ∧ oc.data = .fields fv ∧ fv[1]? = some (.str q t)
  | .met f x => h.get? a = some (PySem.W.methodObj (.ref f) (.ref x))
  | .ext φ => φ h ∧ (∃ o, h.get? a = some o) ∧ ∀ h1 h2 : Heap, φ h1 → (∀ o, h1.get? a = some o → h2.get? a = some o) → φ h2
def HOk (H : Hp) (h : Heap) : Prop := ∀ a o, H a = some o → ObjOk P w H h a o
end
section
variable {P : Program} {w : World} {H H' : Hp} {h h' : Heap} {a : Addr} {o : HO}
theorem ObjOk.lt (x : ObjOk P w H h a o) : a < h.objs.size := by
  cases o with
  | lst xs => obtain ⟨_, _, _, _, e⟩ := x; exact Heap.lt_size e
  | tup xs => obtain ⟨_, _, _, p⟩ := x; exact p.tup.lt
  | dK kvs => obtain ⟨_, _, _, _, o, _, _, e, _⟩ := x; exact Heap.lt_size e
  | dT kvs => obtain ⟨_, _, _, _, o, _, _, e, _⟩ := x; exact Heap.lt_size e
  | set S n => obtain ⟨o, _, _, _, e, _⟩ := x; exact Heap.lt_size e
  | ins C dx fs => obtain ⟨_, _, _, e, _⟩ := x; exact Heap.lt_size e
  | own y => obtain ⟨_, e⟩ := x; exact Heap.lt_size e
  | xd fs => obtain ⟨_, ⟨_, _, _, e, _⟩, _⟩ := x; exact Heap.lt_size e
  | rng lo hi => obtain ⟨_, _, _, e⟩ := x; exact Heap.lt_size e
  | frz ob u => obtain ⟨e, _⟩ := x; exact Heap.lt_size e
  | tbl ps => exact Heap.lt_size (show h.get? a = some _ from x)
  | lam q => obtain ⟨_, e, _⟩ := x; exact Heap.lt_size e
  | met f y => exact Heap.lt_size (show h.get? a = some _ from x)
  | ext φ => obtain ⟨_, ⟨_, e⟩, _⟩ := x; exact Heap.lt_size e
theorem Paired.mapP {α β : Type} {F G : α → β → Prop} : ∀ {l₁ : List α} {l₂ : List β}, Paired F l₁ l₂ → (∀ a b, F a b → G a b) → Paired G l₁ l₂
  | _, _, .nil, _ => .nil
  | _, _, .cons r t, f => .cons (f _ _ r) (Paired.mapP t f)
theorem ObjOk.stay (x : ObjOk P w H h a o) (k : ∀ b u, (b = a ∨ H b = some (.own a)) → h.get? b = some u → h'.get? b = some u)
    (ho : ∀ b, H b = some (.own a) → H' b = some (.own a)) (ht : ∀ b xs, H b = some (.tup xs) → H' b = some (.tup xs)) (hf : ∀ b ob u, H b = some (.frz ob u) → H' b = some (.frz ob u) := by first | exact fun _ _ _ z => z | (intro c ob u z; rw [upd_ne (ne_of_none z (by assumption))]; exact z)) : ObjOk P w H' h' a o := by
  induction o with
  | lst xs => obtain ⟨z, its, n, r, e⟩ := x; exact ⟨z, its, n, r, k _ _ (.inl rfl) e⟩
  | tup xs => obtain ⟨z, its, r, ob, e, c⟩ := x; exact ⟨z, its, r, ob, k _ _ (.inl rfl) e, c⟩
  | dK kvs => obtain ⟨z, y, vs, r, ob, es, ep, e, c⟩ := x; exact ⟨z, y, vs, r, ob, es, ep, k _ _ (.inl rfl) e, c⟩
  | dT kvs =>
    obtain ⟨z, y, xs, r, ob, es, ep, e, c⟩ := x
    exact ⟨z, y, xs, Paired.mapP r fun p q z => ⟨z.1, ht _ _ z.2.1, z.2.2⟩, ob, es, ep, k _ _ (.inl rfl) e, c⟩
  | set S n => obtain ⟨ob, es, ep, t, e, c⟩ := x; exact ⟨ob, es, ep, t, k _ _ (.inl rfl) e, c⟩
  | ins C dx fs =>
    obtain ⟨d, z, ne, e, mA, ⟨od, es, ep, e2, c⟩, r⟩ := x
    exact ⟨ho _ d, z, ne, k _ _ (.inl rfl) e, mA, ⟨od, es, ep, k _ _ (.inr d) e2, c⟩, r⟩
  | own y => obtain ⟨ob, e⟩ := x; exact ⟨ob, k _ _ (.inl rfl) e⟩
  | xd fs => obtain ⟨mA, ⟨od, es, ep, e, c⟩, r⟩ := x; exact ⟨mA, ⟨od, es, ep, k _ _ (.inl rfl) e, c⟩, r⟩
  | rng lo hi => obtain ⟨t, u, v, e⟩ := x; exact ⟨t, u, v, k _ _ (.inl rfl) e⟩
  | frz ob u ih => obtain ⟨e, q⟩ := x; exact ⟨k _ _ (.inl rfl) e, ih q⟩
  | tbl ps =>
    have e : h.get? a = some { cls := .none, data := .fields ps } := x
    show h'.get? a = some { cls := .none, data := .fields ps }
    exact k a _ (.inl rfl) e
  | met f y =>
    have e : h.get? a = some (PySem.W.methodObj (.ref f) (.ref y)) := x
    show h'.get? a = some (PySem.W.methodObj (.ref f) (.ref y))
    exact k a _ (.inl rfl) e
  | lam q => obtain ⟨ps, e, t, c⟩ := x; exact ⟨ps, k _ _ (.inl rfl) e, t, fun pos cv z => let ⟨c', oc, fv, tk, q1, q2, q3⟩ := c pos cv z; ⟨c', oc, fv, tk, q1, hf _ _ _ q2, q3⟩⟩
  | ext φ => obtain ⟨p, ⟨o, e⟩, st⟩ := x; exact ⟨st _ _ p fun o q => k _ _ (.inl rfl) q, ⟨o, k _ _ (.inl rfl) e⟩, st⟩
theorem HOk.lt (x : HOk P w H h) (e : H a = some o) : a < h.objs.size := (x a o e).lt
theorem HOk.fresh (x : HOk P w H h) (e : h.objs.size ≤ a) : H a = none := by
  cases q : H a with
  | none => rfl
  | some u => exact absurd (Nat.lt_of_lt_of_le (x.lt q) e) (Nat.lt_irrefl _)
theorem HOk.kept (x : HOk P w H h) (k : ∀ b u, h.get? b = some u → h'.get? b = some u) : HOk P w H h' := fun a o e =>
  (x a o e).stay (fun b u _ q => k b u q) (fun _ q => q) (fun _ _ q => q) fun _ _ _ q => q
theorem HOk.laid (x : HOk P w H h) (k : ∀ b u, h.get? b = some u → h'.get? b = some u) (hp : h.objs.size ≤ a) (new : ObjOk P w (upd H a o) h' a o) : HOk P w (upd H a o) h' := fun b u e => by
  have hn := x.fresh hp
  by_cases hb : b = a
  · subst hb; rw [upd_same] at e; cases e; exact new
  · rw [upd_ne hb] at e
    exact (x b u e).stay (fun c v _ q => k c v q) (fun c q => by rw [upd_ne (ne_of_none q hn)]; exact q) (fun c xs q => by rw [upd_ne (ne_of_none q hn)]; exact q) fun c ob xs q => by rw [upd_ne (ne_of_none q hn)]; exact q
end
def Rd (H : Hp) (a : Addr) (u : HO) : Prop := H a = some u ∨ ∃ o, H a = some (.frz o u)
theorem Rd.ok {P : Program} {w : World} {H : Hp} {h : Heap} {a : Addr} {u : HO} (r : Rd H a u) (x : HOk P w H h) : ObjOk P w H h a u := by
  rcases r with r | ⟨o, r⟩
  · exact x a u r
  · obtain ⟨_, q⟩ := x a _ r
    exact q
def Mut : Option HO → Prop
  | some (.lst _) => True
  | some (.dK _) => True
  | some (.dT _) => True
  | some (.set _ _) => True
  | some (.ins _ _ _) => True
  | some (.ext _) => True
  | some (.lam _) => True
  | _ => False
section
variable {P : Program} {w : World} {H : Hp} {h h' : Heap} {x e : Addr} {o' : HO}
theorem HOk.write (ok : HOk P w H h) (mu : Mut (H x)) (he : e = x ∨ H e = some (.own x)) (k : ∀ b u, b ≠ e → h.get? b = some u → h'.get? b = some u) (heo : ∃ u, h'.get? e = some u)
    (new : ObjOk P w (upd H x o') h' x o') : HOk P w (upd H x o') h' := fun b u q => by
  have nown : ∀ c y, H c = some (.own y) → c ≠ x := fun c y r z => by subst z; rw [r] at mu; exact mu
  have ntup : ∀ c xs, H c = some (.tup xs) → c ≠ x := fun c xs r z => by subst z; rw [r] at mu; exact mu
  have nfrz : ∀ c ob xs, H c = some (.frz ob xs) → c ≠ x := fun c ob xs r z => by subst z; rw [r] at mu; exact mu
  by_cases hb : b = x
  · subst hb; rw [upd_same] at q; cases q; exact new
  · rw [upd_ne hb] at q
    by_cases hbe : b = e
    · have q' : H b = some (.own x) := by
        rcases he with z | z
        · exact absurd (hbe.trans z) hb
        · rw [hbe]; exact z
      rw [q] at q'; cases q'
      obtain ⟨v, hv⟩ := heo
      exact ⟨v, by rw [hbe]; exact hv⟩
    · refine (ok b u q).stay (fun c v hc r => k c v ?_ r) (fun c r => by rw [upd_ne (nown c b r)]; exact r) (fun c xs r => by rw [upd_ne (ntup c xs r)]; exact r) fun c ob xs r => by rw [upd_ne (nfrz c ob xs r)]; exact r
      rcases hc with rfl | hc
      · exact hbe
      · rintro rfl
        rcases he with z | z
        · exact nown c b hc z
        · rw [hc] at z; cases z; exact hb rfl
end
structure Un (fs ex : List Addr) (H H' : Hp) (h h' : Heap) : Prop where
  keep : ∀ b o, h.get? b = some o → H b = none → b ∉ fs → b ∉ ex → h'.get? b = some o
  slot : ∀ b o, h.get? b = some o → H b = none → b ∈ fs → b ∉ ex → ∃ sl, h'.get? b = some { o with slots := sl }
  free : ∀ b o, h.get? b = some o → H b = none → b ∉ ex → H' b = none
  there : ∀ b o, h.get? b = some o → b ∉ ex → ∃ o', h'.get? b = some o'
  tups : ∀ b xs, H b = some (.tup xs) → H' b = some (.tup xs)
  frzs : ∀ b o u, H b = some (.frz o u) → H' b = some (.frz o u)
  tbls : ∀ b ps, H b = some (.tbl ps) → ∃ more, H' b = some (.tbl (ps ++ more))
section
variable {fs fs' ex ex' : List Addr} {H H1 H2 : Hp} {h h1 h2 h' : Heap} {a x e : Addr} {o : HO}
theorem Un.any (u : Un fs ex H H1 h h1) {b : Addr} {ob : Obj} (q : h.get? b = some ob) (n : H b = none) (hx : b ∉ ex) : ∃ sl, h1.get? b = some { ob with slots := sl } := by
  by_cases hb : b ∈ fs
  · exact u.slot b ob q n hb hx
  · exact ⟨ob.slots, u.keep b ob q n hb hx⟩
theorem Un.kept (k : ∀ b u, h.get? b = some u → h'.get? b = some u) : Un fs ex H H h h' :=
  ⟨fun b ob q _ _ _ => k b ob q, fun b ob q _ _ _ => ⟨ob.slots, k b ob q⟩, fun _ _ _ n _ => n, fun b ob q _ => ⟨ob, k b ob q⟩, fun _ _ q => q, fun _ _ _ q => q, fun _ ps q => ⟨#[], by rw [q]; simp⟩⟩
theorem Un.refl : Un fs ex H H h h := Un.kept fun _ _ q => q
theorem Un.laid (k : ∀ b u, h.get? b = some u → h'.get? b = some u) (hp : h.objs.size ≤ a) (hn : H a = none) : Un fs ex H (upd H a o) h h' where
  keep := fun b u q _ _ _ => k b u q
  slot := fun b u q _ _ _ => ⟨u.slots, k b u q⟩
  free := fun b u q n _ => by rw [upd_ne (Nat.ne_of_lt (Nat.lt_of_lt_of_le (Heap.lt_size q) hp))]; exact n
  there := fun b u q _ => ⟨u, k b u q⟩
  tups := fun b xs q => by rw [upd_ne (ne_of_none q hn)]; exact q
  frzs := fun b u xs q => by rw [upd_ne (ne_of_none q hn)]; exact q
  tbls := fun b ps q => ⟨#[], by rw [upd_ne (ne_of_none q hn), q]; simp⟩
theorem Un.write (mu : Mut (H x)) (he : e = x ∨ H e = some (.own x)) (k : ∀ b u, b ≠ e → h.get? b = some u → h'.get? b = some u) (heo : ∃ u, h'.get? e = some u) : Un fs ex H (upd H x o) h h' := by
  have hx : ∀ b, H b = none → b ≠ x := fun b n z => by subst z; rw [n] at mu; exact mu
  have hb : ∀ b, H b = none → b ≠ e := fun b n z => by
    subst z
    rcases he with r | r
    · exact hx b n r
    · rw [n] at r; cases r
  have hm : ∀ b u, H b = some u → ¬ Mut (some u) → b ≠ x := fun b u q nm z => by subst z; rw [q] at mu; exact nm mu
  refine ⟨fun b u q n _ _ => k b u (hb b n) q, fun b u q n _ _ => ⟨u.slots, k b u (hb b n) q⟩, fun b u q n _ => by rw [upd_ne (hx b n)]; exact n, fun b u q _ => ?_,
    fun b xs q => by rw [upd_ne (hm b _ q fun z => z)]; exact q, fun b u xs q => by rw [upd_ne (hm b _ q fun z => z)]; exact q, fun b ps q => ⟨#[], by rw [upd_ne (hm b _ q fun z => z), q]; simp⟩⟩
  by_cases hbe : b = e
  · subst hbe; exact heo
  · exact ⟨u, k b u hbe q⟩
end
def trk (h : Heap) (H : Hp) : List Addr := (List.range h.objs.size).filter fun a => (H a).isSome
def hidT (h : Heap) (H : Hp) : Heap := PySem.W.hideAll h (trk h H)
theorem hidT_size (h : Heap) (H : Hp) : (hidT h H).objs.size = h.objs.size := PySem.W.hideAll_size _ _
theorem hidT_get {h : Heap} {H : Hp} {b : Addr} {o : Obj} (e : h.get? b = some o) (n : H b = none) : (hidT h H).get? b = some o :=
  PySem.W.hideAll_get _ e fun hm => by
    have q : (H b).isSome = true := (List.mem_filter.mp hm).2
    rw [n] at q; simp at q
theorem of_hidT {h : Heap} {H : Hp} {b : Addr} {o : Obj} (e : (hidT h H).get? b = some o) : h.get? b = some o ∧ H b = none := by
  have e' : h.get? b = some o := PySem.W.of_hideAll (trk h H) e
  refine ⟨e', ?_⟩
  cases q : H b with
  | none => rfl
  | some x =>
    have hm : b ∈ trk h H := List.mem_filter.mpr ⟨List.mem_range.mpr (Heap.lt_size e'), by simp [q]⟩
    have z : (hidT h H).get? b = none := PySem.W.hideAll_none (trk h H) hm
    rw [z] at e; cases e
def allNews (g h : Heap) (L : Addr) : List (Addr × Obj) := (List.range h.objs.size).filterMap fun a => if a = L ∨ (g.get? a).isSome = true then none else (h.get? a).map fun o => (a, o)
theorem mem_allNews {g h : Heap} {L a : Addr} {o : Obj} (h1 : a ≠ L) (h2 : g.get? a = none) (h3 : h.get? a = some o) : (a, o) ∈ allNews g h L :=
  List.mem_filterMap.mpr ⟨a, List.mem_range.mpr (Heap.lt_size h3), by simp [h1, h2, h3]⟩
theorem of_mem_allNews {g h : Heap} {L : Addr} {p : Addr × Obj} (hp : p ∈ allNews g h L) : p.1 ≠ L ∧ g.get? p.1 = none ∧ h.get? p.1 = some p.2 := by
  obtain ⟨b, _, e⟩ := List.mem_filterMap.mp hp
  split at e
  · cases e
  · rename_i hn
    cases q : h.get? b with
    | none => rw [q] at e; simp at e
    | some u =>
      rw [q] at e
      simp only [Option.map_some, Option.some.injEq] at e
      subst e
      refine ⟨fun z => hn (.inl z), ?_, q⟩
      show g.get? b = none
      cases r : g.get? b with
      | none => rfl
      | some v => exact (hn (.inr (by simp [r]))).elim
def rest (g h : Heap) (L d : Addr) : List (Addr × Obj) := (allNews g h L).filter fun p => decide (p.1 ≠ d)
theorem news_all {g h : Heap} {L : Addr} : News g L h (allNews g h L) := fun p hp => let ⟨a, b, c⟩ := of_mem_allNews hp; ⟨c, a, b⟩
end L2
namespace L2
open PySem PySem.Spec PyProof.Rows
structure Mod (K : PySem.W.Frag) (mg : Str → Option Value) (base : Heap) : Prop where
  kin : K.In base
  glob : base.Ns mainGlobals mg
  blt : ∃ mb, base.Ns builtinsNs mb ∧ ∀ x : Str, x ≠ "__name__" → mb x = bootBuiltins x
  nolimit : base.NoLimit
structure Cx where
  prog : Program
  w : World
  K : PySem.W.Frag
  mg : Str → Option Value
  base : Heap
  A : Around
  N : List Str
  s₀ : Shared
  H₀ : Hp
  env : Env
  outer : List Env
  stack : List Env
  ex : List Addr
  fn : Str → Bool
  calm : Bool
  pn : List (Addr × Obj)
  xe : Value → Shared → Prop
def frs (l : List Env) : List Addr := l.filterMap (·.frame)
abbrev Cx.fs (X : Cx) : List Addr := frs X.outer
def Vis (sc : Scope) (x : Str) : Prop := sc.names.lookup x = some .local ∨ sc.names.lookup x = some .cell ∨ sc.names.lookup x = some .free
def Loc (sc : Scope) (x : Str) : Prop := sc.names.lookup x = some .local ∨ sc.names.lookup x = some .cell
def Look (env : Env) (h : Heap) (m : Str → Option Value) (x : Str) (u : Value) : Prop :=
  (env.kindOf x = some .local ∧ m x = some u) ∨ ((env.kindOf x = some .cell ∨ env.kindOf x = some .free) ∧ ∃ c, env.cells.lookup x = some c ∧ h.IsCell c (some u))
structure Cx.Ok (X : Cx) : Prop where
  mod : Mod X.K X.mg X.base
  kind : X.env.scope.kind = .function
  glob : X.env.globals = mainGlobals
  blt : X.env.builtins = builtinsNs
  above : X.s₀.heap.objs.size ≤ X.env.locals
  inj : ∀ x y c, X.env.cells.lookup x = some c → X.env.cells.lookup y = some c → x = y
  has : ∀ x, (X.env.kindOf x = some .cell ∨ X.env.kindOf x = some .free) → ∃ c, X.env.cells.lookup x = some c
  cab : ∀ x c, X.fn x = true → X.env.cells.lookup x = some c → X.s₀.heap.objs.size ≤ c
  hd : X.calm = true → X.A.handled = none
  frames : X.A.frames = some X.stack
  stk : X.stack = X.outer ∨ (X.stack = X.env :: X.outer ∧ X.env.frame = some X.env.locals)
  exf : ∀ b ∈ X.ex, b ≠ X.env.locals ∧ ∀ x c, X.env.cells.lookup x = some c → c ≠ b
  bs : ∀ b o, X.base.get? b = some o → X.s₀.heap.get? b = some o ∧ X.H₀ b = none
  bsz : X.base.objs.size ≤ X.s₀.heap.objs.size
  noex : ∀ b o, X.base.get? b = some o → b ∉ X.ex
  exfs : ∀ b ∈ X.ex, b ∉ X.fs
  funs : X.s₀.heap.FunFrames X.base X.outer
  frf : ∀ b ∈ X.fs, X.H₀ b = none
structure Inv (X : Cx) (pins : List (Addr × Obj)) (σ : List (Option V)) (H : Hp) (s : Shared) : Prop where
  ok : X.Ok
  os : s.os = X.s₀.os
  bare : AllBare s.gens
  base : Un X.fs X.ex X.H₀ H X.s₀.heap s.heap
  loc : ∃ m, s.heap.Ns X.env.locals m ∧ ∀ (i : Nat) (x : Str) (v : V), X.N[i]? = some x → σ[i]? = some (some v) → Vis X.env.scope x → ∃ u, RelV v u ∧ Look X.env s.heap m x u
  cell : ∀ x c, X.env.cells.lookup x = some c → ∃ v, s.heap.IsCell c v
  free : H X.env.locals = none
  freeC : ∀ x c, X.env.cells.lookup x = some c → H c = none
  pin : ∀ p ∈ X.pn ++ pins, s.heap.get? p.1 = some p.2 ∧ H p.1 = none ∧ p.1 ≠ X.env.locals ∧ p.1 ∉ X.fs ∧ ∀ v, p.2.data ≠ .cell v
  hok : HOk X.prog X.w H s.heap
  len : σ.length = X.N.length
section
variable {X : Cx} {pins : List (Addr × Obj)} {σ : List (Option V)} {H H' : Hp} {s : Shared} {h' : Heap}
theorem Cx.Ok.nofr (ok : X.Ok) {b : Addr} {o : Obj} (e : X.base.get? b = some o) : b ∉ X.fs := fun hb => by
  have := (ok.funs.mem hb).1
  rw [e] at this; cases this
theorem Inv.bs (I : Inv X pins σ H s) : ∀ b o, X.base.get? b = some o → s.heap.get? b = some o ∧ H b = none := fun b o e =>
  ⟨I.base.keep b o (I.ok.bs b o e).1 (I.ok.bs b o e).2 (I.ok.nofr e) (I.ok.noex b o e), I.base.free b o (I.ok.bs b o e).1 (I.ok.bs b o e).2 (I.ok.noex b o e)⟩
theorem Inv.bk (I : Inv X pins σ H s) : ∀ b o, X.base.get? b = some o → s.heap.get? b = some o := fun b o e => (I.bs b o e).1
theorem Inv.mod (I : Inv X pins σ H s) : Mod X.K X.mg X.base := I.ok.mod
theorem Inv.kIn (I : Inv X pins σ H s) : X.K.In s.heap := I.ok.mod.kin.keeps I.bk
theorem Inv.fr (I : Inv X pins σ H s) : ∃ m, Fr X.base X.env.locals s.heap m :=
  let ⟨m, hn, _⟩ := I.loc
  ⟨m, hn, I.bk, Nat.le_trans I.ok.bsz I.ok.above⟩
theorem Inv.lt (I : Inv X pins σ H s) : X.env.locals < s.heap.objs.size := let ⟨_, hn, _⟩ := I.loc; hn.lt
theorem Inv.sz (I : Inv X pins σ H s) : X.s₀.heap.objs.size ≤ s.heap.objs.size := Nat.le_trans I.ok.above (Nat.le_of_lt I.lt)
theorem Inv.nofs (I : Inv X pins σ H s) {a : Addr} (h : s.heap.objs.size ≤ a) : a ∉ X.fs := fun hb => by
  obtain ⟨_, o, ho, _⟩ := I.ok.funs.mem hb
  exact absurd (Nat.lt_of_lt_of_le (Heap.lt_size ho) (Nat.le_trans I.sz h)) (Nat.lt_irrefl _)
theorem Inv.cne (I : Inv X pins σ H s) : ∀ x c, X.env.cells.lookup x = some c → c ≠ X.env.locals := fun x c e z => by
  obtain ⟨v, o, ho, hd⟩ := I.cell x c e
  obtain ⟨m, ⟨o', es, ep, ho', hd', _⟩, _⟩ := I.loc
  rw [z, ho'] at ho; cases ho; rw [hd'] at hd; cases hd
theorem Inv.funs (I : Inv X pins σ H s) : s.heap.FunFrames X.base X.outer := by
  have all : ∀ (l : List Env), (∀ b ∈ frs l, b ∈ X.fs) → X.s₀.heap.FunFrames X.base l → s.heap.FunFrames X.base l := by
    intro l
    induction l with
    | nil => intro _ _; trivial
    | cons env r ih =>
      intro hs hl
      obtain ⟨hk, ⟨L, o, hf, hn, ho, hd⟩, hr⟩ := hl
      have hL : L ∈ X.fs := hs L (by unfold frs; rw [List.filterMap_cons, hf]; exact List.mem_cons_self)
      obtain ⟨sl, e⟩ := I.base.slot L o ho (I.ok.frf L hL) hL fun z => I.ok.exfs L z hL
      exact ⟨hk, ⟨L, _, hf, hn, e, hd⟩, ih (fun b hb => hs b (by unfold frs; rw [List.filterMap_cons, hf]; exact List.mem_cons_of_mem _ hb)) hr⟩
  exact all X.outer (fun _ hb => hb) I.ok.funs
theorem Inv.stack (I : Inv X pins σ H s) : s.heap.FunFrames X.base X.stack := by
  rcases I.ok.stk with e | ⟨e, hf⟩
  · rw [e]; exact I.funs
  · rw [e]
    obtain ⟨m, hn, _⟩ := I.loc
    refine .cons (by rw [I.ok.kind]; decide) hf hn ?_ I.funs
    exact Heap.get?_none_of_le (Nat.le_trans I.ok.bsz I.ok.above)
theorem Inv.stkSub (I : Inv X pins σ H s) : ∀ b ∈ frs X.stack, b ∈ X.env.locals :: X.fs := fun b hb => by
  rcases I.ok.stk with e | ⟨e, hf⟩
  · rw [e] at hb; exact List.mem_cons_of_mem _ hb
  · rw [e] at hb
    unfold frs at hb
    rw [List.filterMap_cons, hf] at hb
    exact hb
theorem Inv.stkFree (I : Inv X pins σ H s) : ∀ b ∈ frs X.stack, H b = none := fun b hb => by
  rcases List.mem_cons.mp (I.stkSub b hb) with e | hb
  · rw [e]; exact I.free
  · obtain ⟨_, o, ho, _⟩ := I.ok.funs.mem hb
    exact I.base.free b o ho (I.ok.frf b hb) fun z => I.ok.exfs b z hb
theorem Inv.step {g' : Array GenState} {t' : Nat} {d' : Drawn} {ch : List Addr} (I : Inv X pins σ H s)
    (hch : ∀ b ∈ ch, (b ∈ X.ex ∨ X.s₀.heap.objs.size ≤ b) ∧ b ≠ X.env.locals ∧ (∀ x c, X.env.cells.lookup x = some c → c ≠ b) ∧ ∀ p ∈ X.pn ++ pins, p.1 ≠ b)
    (keep : ∀ b o, b ≠ X.env.locals → b ∉ X.fs → b ∉ ch → s.heap.get? b = some o → H b = none → h'.get? b = some o)
    (slot : ∀ b o, b ≠ X.env.locals → b ∈ X.fs → b ∉ ch → s.heap.get? b = some o → H b = none → ∃ sl, h'.get? b = some { o with slots := sl }) (free : ∀ b o, b ∉ ch → s.heap.get? b = some o → H b = none → H' b = none)
    (there : ∀ b o, b ∉ ch → s.heap.get? b = some o → ∃ o', h'.get? b = some o')
    (tups : ∀ b xs, H b = some (.tup xs) → H' b = some (.tup xs)) (frzs : ∀ b o u, H b = some (.frz o u) → H' b = some (.frz o u)) (tbls : ∀ b ps, H b = some (.tbl ps) → ∃ more, H' b = some (.tbl (ps ++ more)))
    (ns : ∀ m, s.heap.Ns X.env.locals m → h'.Ns X.env.locals m) (hok : HOk X.prog X.w H' h') (hg : AllBare g') :
    Inv X pins σ H' { s with heap := h', gens := g', drawn := d', toks := t' } := by
  have neL : ∀ b o, X.s₀.heap.get? b = some o → b ≠ X.env.locals := fun b o e => Nat.ne_of_lt (Nat.lt_of_lt_of_le (Heap.lt_size e) I.ok.above)
  have neC : ∀ b o, X.s₀.heap.get? b = some o → b ∉ X.ex → b ∉ ch := fun b o e hx hb => by
    rcases (hch b hb).1 with z | z
    · exact hx z
    · exact absurd (Nat.lt_of_lt_of_le (Heap.lt_size e) z) (Nat.lt_irrefl _)
  have cellK : ∀ x c, X.env.cells.lookup x = some c → ∀ v, s.heap.IsCell c v → h'.IsCell c v := fun x c e v ⟨o, ho, hd⟩ => by
    have nch : c ∉ ch := fun z => (hch c z).2.2.1 x c e rfl
    by_cases hc : c ∈ X.fs
    · obtain ⟨sl, q⟩ := slot c o (I.cne x c e) hc nch ho (I.freeC x c e)
      exact ⟨_, q, hd⟩
    · exact ⟨o, keep c o (I.cne x c e) hc nch ho (I.freeC x c e), hd⟩
  refine ⟨I.ok, I.os, hg, ⟨fun b o e n hb hx => ?_, fun b o e n hb hx => ?_, fun b o e n hx => ?_, fun b o e hx => ?_, fun b xs e => tups b xs (I.base.tups b xs e), fun b o xs e => frzs b o xs (I.base.frzs b o xs e), fun b ps e => ?_⟩, ?_, fun x c e => ?_, ?_, fun x c e => ?_, fun p hp => ?_, hok, I.len⟩
  · exact keep b o (neL b o e) hb (neC b o e hx) (I.base.keep b o e n hb hx) (I.base.free b o e n hx)
  · obtain ⟨sl, e1⟩ := I.base.slot b o e n hb hx
    obtain ⟨sl', e2⟩ := slot b _ (neL b o e) hb (neC b o e hx) e1 (I.base.free b o e n hx)
    exact ⟨sl', e2⟩
  · obtain ⟨o', e1⟩ := I.base.there b o e hx
    exact free b o' (neC b o e hx) e1 (I.base.free b o e n hx)
  · obtain ⟨o', e1⟩ := I.base.there b o e hx
    exact there b o' (neC b o e hx) e1
  · obtain ⟨m1, e1⟩ := I.base.tbls b ps e
    obtain ⟨m2, e2⟩ := tbls b _ e1
    exact ⟨m1 ++ m2, by rw [e2, Array.append_assoc]⟩
  · obtain ⟨m, hn, hl⟩ := I.loc
    refine ⟨m, ns m hn, fun i x v e1 e2 e3 => ?_⟩
    obtain ⟨u, r, l⟩ := hl i x v e1 e2 e3
    refine ⟨u, r, ?_⟩
    rcases l with l | ⟨k, c, e, z⟩
    · exact .inl l
    · exact .inr ⟨k, c, e, cellK x c e _ z⟩
  · obtain ⟨v, z⟩ := I.cell x c e
    exact ⟨v, cellK x c e v z⟩
  · obtain ⟨m, ⟨o, _, _, ho, _⟩, _⟩ := I.loc
    exact free _ o (fun z => (hch _ z).2.1 rfl) ho I.free
  · obtain ⟨v, o, ho, hd⟩ := I.cell x c e
    exact free c o (fun z => (hch c z).2.2.1 x c e rfl) ho (I.freeC x c e)
  · obtain ⟨e, n, ne, nf, d⟩ := I.pin p hp
    have nch : p.1 ∉ ch := fun z => (hch p.1 z).2.2.2 p hp rfl
    exact ⟨keep p.1 p.2 ne nf nch e n, free p.1 p.2 nch e n, ne, nf, d⟩
theorem Inv.un {t' : Nat} (I : Inv X pins σ H s) (u : Un X.fs [] H H' s.heap h') (hok : HOk X.prog X.w H' h') : Inv X pins σ H' { s with heap := h', toks := t' } := by
  obtain ⟨m, ⟨o, es, ep, ho, r⟩, _⟩ := id I.loc
  obtain ⟨sl, hL⟩ := u.any ho I.free (by simp)
  exact I.step (g' := s.gens) (d' := s.drawn) (ch := []) (fun _ z => nomatch z) (fun b o _ hb _ e n => u.keep b o e n hb (by simp)) (fun b o _ hb _ e n => u.slot b o e n hb (by simp)) (fun b o _ e n => u.free b o e n (by simp)) (fun b o _ e => u.there b o e (by simp)) u.tups u.frzs u.tbls (fun m' hm => by
    obtain ⟨o', es', ep', ho', r'⟩ := hm
    rw [ho] at ho'; cases ho'
    exact ⟨_, es', ep', hL, r'⟩) hok I.bare
theorem Inv.call {g' : Array GenState} {t' : Nat} {d' : Drawn} {ch : List Addr} (I : Inv X pins σ H s) (u : Un (frs X.stack) ch H H' s.heap h') (hok : HOk X.prog X.w H' h') (hg : AllBare g')
    (hch : ∀ b ∈ ch, (b ∈ X.ex ∨ X.s₀.heap.objs.size ≤ b) ∧ b ≠ X.env.locals ∧ (∀ x c, X.env.cells.lookup x = some c → c ≠ b) ∧ ∀ p ∈ X.pn ++ pins, p.1 ≠ b) :
    Inv X pins σ H' { s with heap := h', gens := g', drawn := d', toks := t' } := by
  obtain ⟨m, ⟨o, es, ep, ho, r⟩, _⟩ := id I.loc
  obtain ⟨sl, hL⟩ := u.any ho I.free fun z => (hch _ z).2.1 rfl
  exact I.step (ch := ch) hch (fun b o hL hb hc e n => u.keep b o e n (fun z => (List.mem_cons.mp (I.stkSub b z)).elim hL hb) hc) (fun b o _ _ hc e n => u.any e n hc) (fun b o hc e n => u.free b o e n hc) (fun b o hc e => u.there b o e hc) u.tups u.frzs u.tbls (fun m' hm => by
    obtain ⟨o', es', ep', ho', r'⟩ := hm
    rw [ho] at ho'; cases ho'
    exact ⟨_, es', ep', hL, r'⟩) hok hg
theorem Inv.turned {t' : Nat} {it : Addr} (I : Inv X pins σ H s) (k : ∀ b o, b ≠ it → s.heap.get? b = some o → h'.get? b = some o) (hn : H it = none) (hL : it ≠ X.env.locals)
    (h1 : it ∈ X.ex ∨ X.s₀.heap.objs.size ≤ it) (h2 : ∀ x c, X.env.cells.lookup x = some c → c ≠ it) (h3 : ∀ p ∈ X.pn ++ pins, p.1 ≠ it) : Inv X pins σ H { s with heap := h', toks := t' } := by
  have nit : ∀ b u, H b = some u → b ≠ it := fun b u e z => by rw [z, hn] at e; cases e
  refine I.step (g' := s.gens) (d' := s.drawn) (ch := [it]) (fun b hb => ?_) (fun b o _ _ hc e _ => k b o (fun z => hc (by simp [z])) e) (fun b o _ _ hc e _ => ⟨o.slots, k b o (fun z => hc (by simp [z])) e⟩) (fun _ _ _ _ n => n)
    (fun b o hc e => ⟨o, k b o (fun z => hc (by simp [z])) e⟩) (fun _ _ e => e) (fun _ _ _ e => e) (fun b ps e => ⟨#[], by rw [e]; simp⟩) (fun m hm => ?_) (fun b u e => ?_) I.bare
  · have e : b = it := by simpa using hb
    subst e
    exact ⟨h1, hL, h2, h3⟩
  · obtain ⟨o, es, ep, ho, r⟩ := hm
    exact ⟨o, es, ep, k _ o (Ne.symm hL) ho, r⟩
  · refine (I.hok b u e).stay (fun c v hc q => k c v ?_ q) (fun _ q => q) (fun _ _ q => q) fun _ _ _ q => q
    rcases hc with z | z
    · rw [z]; exact nit b u e
    · exact nit c _ z
theorem Inv.tok (I : Inv X pins σ H s) (t : Nat) : Inv X pins σ H { s with toks := t } := I.un (h' := s.heap) (t' := t) Un.refl I.hok
theorem Inv.kept {t' : Nat} (I : Inv X pins σ H s) (k : ∀ b u, s.heap.get? b = some u → h'.get? b = some u) : Inv X pins σ H { s with heap := h', toks := t' } := I.un (Un.kept k) (I.hok.kept k)
theorem Inv.laid {a : Addr} {o : HO} {t' : Nat} (I : Inv X pins σ H s) (k : ∀ b u, s.heap.get? b = some u → h'.get? b = some u) (hp : s.heap.objs.size ≤ a) (new : ObjOk X.prog X.w (upd H a o) h' a o) :
    Inv X pins σ (upd H a o) { s with heap := h', toks := t' } := I.un (Un.laid k hp (I.hok.fresh hp)) (I.hok.laid k hp new)
theorem Inv.write {x e : Addr} {o : HO} {t' : Nat} (I : Inv X pins σ H s) (mu : Mut (H x)) (he : e = x ∨ H e = some (.own x)) (k : ∀ b u, b ≠ e → s.heap.get? b = some u → h'.get? b = some u) (heo : ∃ u, h'.get? e = some u)
    (new : ObjOk X.prog X.w (upd H x o) h' x o) : Inv X pins σ (upd H x o) { s with heap := h', toks := t' } := I.un (Un.write mu he k heo) (I.hok.write mu he k heo new)
theorem Inv.pins_of {pins' : List (Addr × Obj)} (I : Inv X pins σ H s) (h : ∀ p ∈ pins', s.heap.get? p.1 = some p.2 ∧ H p.1 = none ∧ p.1 ≠ X.env.locals ∧ p.1 ∉ X.fs ∧ ∀ v, p.2.data ≠ .cell v) : Inv X pins' σ H s :=
  ⟨I.ok, I.os, I.bare, I.base, I.loc, I.cell, I.free, I.freeC, fun p hp => (List.mem_append.mp hp).elim (fun z => I.pin p (List.mem_append_left _ z)) (h p), I.hok, I.len⟩
theorem nodup_ix {N : List Str} (hN : N.Nodup) {i j : Nat} {x : Str} (a : N[i]? = some x) (b : N[j]? = some x) : i = j := by
  obtain ⟨h1, e1⟩ := List.getElem?_eq_some_iff.mp a
  obtain ⟨h2, e2⟩ := List.getElem?_eq_some_iff.mp b
  exact (List.getElem_inj hN).mp (e1.trans e2.symm)
theorem store_ok2 {M : Model} {A : Around} {E : Value → Shared → Prop} {i : Nat} {x : Str} {v : V} {u : Value} {Q : Unit → Shared → Prop} (I : Inv X pins σ H s) (hN : X.N.Nodup) (hi : X.N[i]? = some x) (hx : Loc X.env.scope x) (r : RelV v u)
    (h : ∀ s', Inv X pins (σ.set i (some v)) H s' → (∃ a, Heap.SameBut a s.heap s'.heap ∧ (a = X.env.locals ∨ X.env.cells.lookup x = some a)) → Q () s') (hf : X.fn x = true ∨ X.env.scope.names.lookup x = some .local := by first | exact .inl rfl | exact .inr rfl | assumption) : wpAny M A (storeName X.env x u) Q E s := by
  obtain ⟨m, hn, hl⟩ := id I.loc
  have hcls : (X.env.scope.kind == .class || (X.env.scope.kind == .module && X.env.locals != X.env.globals)) = false := by rw [I.ok.kind]; rfl
  have hiσ : i < σ.length := by rw [I.len]; exact (List.getElem?_eq_some_iff.mp hi).1
  have cne := I.cne
  have tracked : ∀ {a : Addr} {h' : Heap}, (∃ o, s.heap.get? a = some o ∧ H a = none) → Heap.SameBut a s.heap h' → HOk X.prog X.w H h' := fun {a h'} ha hs b ob e => by
    obtain ⟨_, _, hfree⟩ := ha
    refine (I.hok b ob e).stay (fun c w' hc q => (hs.2 c ?_).trans q) (fun _ q => q) (fun _ _ q => q) fun _ _ _ q => q
    rintro rfl
    rcases hc with rfl | hc
    · rw [hfree] at e; cases e
    · rw [hfree] at hc; cases hc
  rcases hx with hk | hk
  · refine wpAny_storeName_local hk hn (fun h' hn' hs => ?_) hcls
    obtain ⟨oL, _, _, hoL, _⟩ := id hn
    refine h _ ⟨I.ok, I.os, I.bare, ⟨fun b o e n hb hx => ?_, fun b o e n hb hx => ?_, I.base.free, fun b o e hx => ?_, I.base.tups, I.base.frzs, I.base.tbls⟩, ⟨_, hn', fun j y v' e1 e2 e3 => ?_⟩, fun y c e => ?_, I.free, I.freeC, fun p hp => ?_, tracked ⟨oL, hoL, I.free⟩ hs, by simpa using I.len⟩ ⟨_, hs, .inl rfl⟩
    · exact (hs.2 b (Nat.ne_of_lt (Nat.lt_of_lt_of_le (Heap.lt_size e) I.ok.above))).trans (I.base.keep b o e n hb hx)
    · obtain ⟨sl, e1⟩ := I.base.slot b o e n hb hx
      exact ⟨sl, (hs.2 b (Nat.ne_of_lt (Nat.lt_of_lt_of_le (Heap.lt_size e) I.ok.above))).trans e1⟩
    · obtain ⟨o', e1⟩ := I.base.there b o e hx
      exact ⟨o', (hs.2 b (Nat.ne_of_lt (Nat.lt_of_lt_of_le (Heap.lt_size e) I.ok.above))).trans e1⟩
    · by_cases hj : j = i
      · subst hj
        rw [hi] at e1; cases e1
        rw [List.getElem?_set_self hiσ] at e2
        cases e2
        exact ⟨u, r, .inl ⟨hk, by simp⟩⟩
      · rw [List.getElem?_set_ne (Ne.symm hj)] at e2
        obtain ⟨u', r', q⟩ := hl j y v' e1 e2 e3
        refine ⟨u', r', ?_⟩
        rcases q with ⟨k, e⟩ | ⟨k, c, e, z⟩
        · refine .inl ⟨k, ?_⟩
          have : y ≠ x := fun e => hj (nodup_ix hN e1 (e ▸ hi))
          simp [this, e]
        · exact .inr ⟨k, c, e, z.sameBut hs (cne y c e)⟩
    · obtain ⟨w', z⟩ := I.cell y c e
      exact ⟨w', z.sameBut hs (cne y c e)⟩
    · obtain ⟨e, n, ne, nf, d⟩ := I.pin p hp
      exact ⟨(hs.2 p.1 ne).trans e, n, ne, nf, d⟩
  · have hfn : X.fn x = true := by
      rcases hf with z | z
      · exact z
      · rw [z] at hk; cases hk
    obtain ⟨c, hc⟩ := I.ok.has x (.inl hk)
    obtain ⟨w', z⟩ := I.cell x c hc
    refine wpAny_storeName_cell I.ok.kind hk hc z (fun h' hc' hs => ?_)
    obtain ⟨oc, hoc, hocd⟩ := id z
    refine h { s with heap := h' } ⟨I.ok, I.os, I.bare, ⟨fun b o e n hb hx => ?_, fun b o e n hb hx => ?_, I.base.free, fun b o e hx => ?_, I.base.tups, I.base.frzs, I.base.tbls⟩, ⟨m, hn.sameBut hs (Ne.symm (cne x c hc)), fun j y v' e1 e2 e3 => ?_⟩, fun y c' e => ?_, I.free, I.freeC, fun p hp => ?_, tracked ⟨oc, hoc, I.freeC x c hc⟩ hs, by simpa using I.len⟩ ⟨c, hs, .inr hc⟩
    · exact (hs.2 b (Nat.ne_of_lt (Nat.lt_of_lt_of_le (Heap.lt_size e) (I.ok.cab x c hfn hc)))).trans (I.base.keep b o e n hb hx)
    · obtain ⟨sl, e1⟩ := I.base.slot b o e n hb hx
      exact ⟨sl, (hs.2 b (Nat.ne_of_lt (Nat.lt_of_lt_of_le (Heap.lt_size e) (I.ok.cab x c hfn hc)))).trans e1⟩
    · obtain ⟨o', e1⟩ := I.base.there b o e hx
      exact ⟨o', (hs.2 b (Nat.ne_of_lt (Nat.lt_of_lt_of_le (Heap.lt_size e) (I.ok.cab x c hfn hc)))).trans e1⟩
    · by_cases hj : j = i
      · subst hj
        rw [hi] at e1; cases e1
        rw [List.getElem?_set_self hiσ] at e2
        cases e2
        exact ⟨u, r, .inr ⟨.inl hk, c, hc, hc'⟩⟩
      · rw [List.getElem?_set_ne (Ne.symm hj)] at e2
        obtain ⟨u', r', q⟩ := hl j y v' e1 e2 e3
        refine ⟨u', r', ?_⟩
        rcases q with q | ⟨k, c', e, z'⟩
        · exact .inl q
        · refine .inr ⟨k, c', e, z'.sameBut hs ?_⟩
          rintro rfl
          exact hj (nodup_ix hN e1 (I.ok.inj _ _ _ e hc ▸ hi))
    · by_cases hcc : c' = c
      · subst hcc; exact ⟨_, hc'⟩
      · obtain ⟨w2, z2⟩ := I.cell y c' e
        exact ⟨w2, z2.sameBut hs hcc⟩
    · obtain ⟨e, n, ne, nf, d⟩ := I.pin p hp
      refine ⟨(hs.2 p.1 ?_).trans e, n, ne, nf, d⟩
      intro q
      rw [q, hoc] at e
      have q' : oc = p.2 := Option.some.inj e
      exact d w' (by rw [← q']; exact hocd)
theorem store_ok {M : Model} {A : Around} {E : Value → Shared → Prop} {i : Nat} {x : Str} {v : V} {u : Value} {Q : Unit → Shared → Prop} (I : Inv X pins σ H s) (hN : X.N.Nodup) (hi : X.N[i]? = some x) (hx : Loc X.env.scope x) (r : RelV v u)
    (h : ∀ s', Inv X pins (σ.set i (some v)) H s' → Q () s') (hf : X.fn x = true ∨ X.env.scope.names.lookup x = some .local := by first | exact .inl rfl | exact .inr rfl | assumption) : wpAny M A (storeName X.env x u) Q E s :=
  store_ok2 I hN hi hx r (fun s' I' _ => h s' I') hf
theorem Inv.call' {s' : Shared} {ch : List Addr} (I : Inv X pins σ H s) (ho : s'.os = s.os) (u : Un (frs X.stack) ch H H' s.heap s'.heap) (hok : HOk X.prog X.w H' s'.heap) (hg : AllBare s'.gens)
    (hch : ∀ b ∈ ch, (b ∈ X.ex ∨ X.s₀.heap.objs.size ≤ b) ∧ b ≠ X.env.locals ∧ (∀ x c, X.env.cells.lookup x = some c → c ≠ b) ∧ ∀ p ∈ X.pn ++ pins, p.1 ≠ b) : Inv X pins σ H' s' := by
  obtain ⟨h', g', d', t', o'⟩ := s'
  have e : o' = s.os := ho
  subst e
  exact I.call (g' := g') (t' := t') (d' := d') u hok hg hch
end
abbrev XK := Value → Option Addr → Hp → Prop
abbrev St := List (Option V)
abbrev VK := V → Hp → Prop
abbrev TE := St → Hp → VK → Prop
abbrev TT := St → Hp → (Bool → Hp → Prop) → Prop
abbrev TA := St → Hp → (List V → Hp → Prop) → Prop
structure Ends where
  nx : St → Hp → Prop
  rt : VK
  bk : St → Hp → Prop := fun _ _ => False
  ct : St → Hp → Prop := fun _ _ => False
abbrev TS := Ends → St → Hp → Prop
def EP (X : Cx) (pins : List (Addr × Obj)) (σ : St) (Q : VK) (u : Value) (s' : Shared) : Prop := ∃ v H', Inv X pins σ H' s' ∧ RelV v u ∧ Q v H'
def TP (X : Cx) (pins : List (Addr × Obj)) (σ : St) (Q : Bool → Hp → Prop) (b : Bool) (s' : Shared) : Prop := ∃ H', Inv X pins σ H' s' ∧ Q b H'
def AP (X : Cx) (pins : List (Addr × Obj)) (σ : St) (Q : List V → Hp → Prop) (us : List Value) (s' : Shared) : Prop := ∃ vs H', Inv X pins σ H' s' ∧ Vals vs us ∧ Q vs H'
def SP (X : Cx) (pins : List (Addr × Obj)) (D : Ends) (f : Flow) (s' : Shared) : Prop :=
  match f with
  | .next => ∃ σ' H', Inv X pins σ' H' s' ∧ D.nx σ' H'
  | .brk => ∃ σ' H', Inv X pins σ' H' s' ∧ D.bk σ' H'
  | .cont => ∃ σ' H', Inv X pins σ' H' s' ∧ D.ct σ' H'
  | .ret u => ∃ v σ' H', Inv X pins σ' H' s' ∧ RelV v u ∧ D.rt v H'
def PE (X : Cx) (e : Expr) (t : TE) : Prop :=
  ∀ (pins : List (Addr × Obj)) (s : Shared) (σ : St) (H : Hp) (Q : VK), Inv X pins σ H s → t σ H Q → wpAny (model X.prog X.w) X.A (eval e X.env) (EP X pins σ Q) X.xe s
def PT (X : Cx) (e : Expr) (t : TT) : Prop :=
  ∀ (pins : List (Addr × Obj)) (s : Shared) (σ : St) (H : Hp) (Q : Bool → Hp → Prop), Inv X pins σ H s → t σ H Q → wpAny (model X.prog X.w) X.A (isTrue e X.env (eval e X.env)) (TP X pins σ Q) X.xe s
def PW (X : Cx) (e : Expr) (t : TT) : Prop :=
  ∀ (whole : Sem Value) (pins : List (Addr × Obj)) (s : Shared) (σ : St) (H : Hp) (Q : Bool → Hp → Prop), Inv X pins σ H s → t σ H Q → wpAny (model X.prog X.w) X.A (isTrue e X.env whole) (TP X pins σ Q) X.xe s
theorem PW.pt {X : Cx} {e : Expr} {t : TT} (h : PW X e t) : PT X e t := h _
def PA (X : Cx) (es : List Expr) (t : TA) : Prop :=
  ∀ (pos : Pos) (pins : List (Addr × Obj)) (s : Shared) (σ : St) (H : Hp) (Q : List V → Hp → Prop), Inv X pins σ H s → t σ H Q → wpAny (model X.prog X.w) X.A (spliced (backTo pos (starEach es X.env))) (AP X pins σ Q) X.xe s
def PS (X : Cx) (st : Stmt) (t : TS) : Prop :=
  ∀ (pins : List (Addr × Obj)) (s : Shared) (σ : St) (H : Hp) (D : Ends), Inv X pins σ H s → t D σ H → wpAny (model X.prog X.w) X.A (exec st X.env) (SP X pins D) X.xe s
def PSs (X : Cx) (st : List Stmt) (t : TS) : Prop :=
  ∀ (pins : List (Addr × Obj)) (s : Shared) (σ : St) (H : Hp) (D : Ends), Inv X pins σ H s → t D σ H → wpAny (model X.prog X.w) X.A (execs st X.env) (SP X pins D) X.xe s
theorem thn {α : Type} {t : Sem α} {Q Q' : α → Shared → Prop} {M : Model} {A : Around} {E : Value → Shared → Prop} {s : Shared} (h : wpAny M A t Q E s) (hQ : ∀ a s, Q a s → Q' a s) : wpAny M A t Q' E s := wpAny_mono h hQ fun _ _ x => x
end L2
namespace L2
open PySem PySem.Spec PyProof.Rows
section
variable {X : Cx}
def tVar (i : Nat) : TE := fun σ H Q => ∃ v, σ[i]? = some (some v) ∧ Q v H
def tC (v : V) : TE := fun _ H Q => Q v H
theorem pe_var {i : Nat} {x : Str} {pos : Pos} (hN : X.N[i]? = some x) (hv : Vis X.env.scope x) (hd : (x == ("__debug__" : Str)) = false := by decide) (hcd : (x == ("__classdict__" : Str)) = false := by decide) : PE X (.Name x pos) (tVar i) := by
  intro pins s σ H Q I h
  obtain ⟨v, e, h⟩ := h
  obtain ⟨m, hn, hl⟩ := I.loc
  obtain ⟨u, r, l⟩ := hl i x v hN e hv
  have fin : EP X pins σ Q u s := ⟨v, H, I, r, h⟩
  rcases l with ⟨hk, hm⟩ | ⟨hk, c, hc, hcell⟩
  · exact wpAny_Name (wpAny_loadName_local I.ok.kind hk hn hm fin) hd
  · rcases hk with hk | hk
    · exact wpAny_Name (wpAny_loadName_cell I.ok.kind hk hc hcell fin) hd
    · exact wpAny_Name (wpAny_loadName_free I.ok.kind hk hc hcell fin hcd) hd
theorem pe_int {i j pos} : PE X (.Constant (.int i) j pos) (tC (.int i)) := fun _ _ _ H _ I h => wpAny_Constant_int ⟨.int i, H, I.tok _, ⟨_, rfl⟩, h⟩
theorem pe_bl {b j pos} : PE X (.Constant (.bool b) j pos) (tC (.bl b)) := fun _ _ _ H _ I h => Constant_bool ⟨.bl b, H, I, rfl, h⟩
theorem pe_non {j pos} : PE X (.Constant .none j pos) (tC .non) := fun _ _ _ H _ I h => Constant_none ⟨.non, H, I, rfl, h⟩
theorem pe_str {x j pos} : PE X (.Constant (.str x) j pos) (tC (.str x)) := fun _ _ _ H _ I h => Calls.Constant_str ⟨.str x, H, I.tok _, ⟨_, rfl⟩, h⟩
def Gl (X : Cx) (x : Str) : Prop := X.env.kindOf x = some .globalImplicit
theorem ld_glob {E : Value → Shared → Prop} {pins : List (Addr × Obj)} {s : Shared} {σ : St} {H : Hp} {x : Str} {u : Value} {pos : Pos} {Q : Value → Shared → Prop} (I : Inv X pins σ H s) (hg : Gl X x) (hm : X.mg x = some u) (h : Q u s)
    (hd : (x == ("__debug__" : Str)) = false := by decide) : wpAny (model X.prog X.w) X.A (eval (.Name x pos) X.env) Q E s :=
  Calls.Name_function_global I.ok.kind hg (Calls.loadGlobal_global (by rw [I.ok.glob]; exact I.mod.glob.keeps I.bk) hm h) hd
theorem ld_blt {E : Value → Shared → Prop} {pins : List (Addr × Obj)} {s : Shared} {σ : St} {H : Hp} {x : Str} {u : Value} {pos : Pos} {Q : Value → Shared → Prop} (I : Inv X pins σ H s) (hg : Gl X x) (hm : X.mg x = none) (hv : bootBuiltins x = some u) (h : Q u s)
    (hn : x ≠ "__name__" := by decide) (hd : (x == ("__debug__" : Str)) = false := by decide) : wpAny (model X.prog X.w) X.A (eval (.Name x pos) X.env) Q E s := by
  obtain ⟨mb, h1, h2⟩ := I.mod.blt
  exact Calls.Name_function_global I.ok.kind hg (Calls.loadGlobal_builtin (by rw [I.ok.glob]; exact I.mod.glob.keeps I.bk) hm (by rw [I.ok.blt]; exact h1.keeps I.bk) ((h2 x hn).trans hv) h) hd
theorem pe_glob {x : Str} {v : V} {u : Value} {pos : Pos} (hg : Gl X x) (hm : X.mg x = some u) (r : RelV v u) (hd : (x == ("__debug__" : Str)) = false := by decide) : PE X (.Name x pos) (tC v) :=
  fun _ _ _ H _ I h => ld_glob I hg hm ⟨v, H, I, r, h⟩ hd
theorem pe_bltn {x : Str} {v : V} {u : Value} {pos : Pos} (hg : Gl X x) (hm : X.mg x = none) (hv : bootBuiltins x = some u) (r : RelV v u) (hn : x ≠ "__name__" := by decide) (hd : (x == ("__debug__" : Str)) = false := by decide) : PE X (.Name x pos) (tC v) :=
  fun _ _ _ H _ I h => ld_blt I hg hm hv ⟨v, H, I, r, h⟩ hn hd
variable {a b : Expr} {ta tb : TE} {pos : Pos}
def PC (X : Cx) (op : CmpOp) (a b : Expr) (t : TE) : Prop :=
  ∀ (pins : List (Addr × Obj)) (s : Shared) (σ : St) (H : Hp) (Q : VK), Inv X pins σ H s → t σ H Q →
    wpAny (model X.prog X.w) X.A (eval a X.env) (fun v s₁ => wpAny (model X.prog X.w) X.A (eval b X.env) (fun u s₂ => wpAny (model X.prog X.w) X.A (compareOp op v u) (EP X pins σ Q) X.xe s₂) X.xe s₁) X.xe s
theorem nobehind (b : Expr) {op : CmpOp} (h : op ≠ .In) (h2 : op ≠ .NotIn) : behindInMarks op b = false := by
  have e1 : (op == CmpOp.In) = false := by cases op <;> first | rfl | exact absurd rfl h
  have e2 : (op == CmpOp.NotIn) = false := by cases op <;> first | rfl | exact absurd rfl h2
  cases b <;> simp [behindInMarks, e1, e2]
def tB (t : TE) : TT := fun σ H Q => t σ H fun x H1 => ∃ c, x = .bl c ∧ Q c H1
theorem pt_cmp {op : CmpOp} {t : TE} (h : PC X op a b t) (h1 : behindInMarks op b = false := by first | exact nobehind _ (by decide) (by decide) | rfl) : PT X (.Compare a [op] [b] pos) (tB t) := by
  intro pins s σ H Q I hw
  refine wpAny_isTrue_Compare1 (thn (h pins s σ H _ I hw) fun v s1 h1 => thn h1 fun u s2 h2 => thn h2 fun c s3 ⟨x, H1, I1, r1, q1⟩ => ?_) h1
  obtain ⟨d, rfl, q⟩ := q1
  cases r1
  exact wpAny_truthy_bool ⟨H1, I1, q⟩
theorem pt_val {e : Expr} {t : TE} (h : PE X e t) (he : ∀ whole, isTrue e X.env whole = (do let v ← whole; standAt e.pos; holding [v] (truthy v)) := by intro _; rfl) : PT X e (tB t) := by
  intro pins s σ H Q I hw
  refine isTrue_plain (thn (h pins s σ H _ I hw) fun v s1 ⟨x, H1, I1, r1, q1⟩ => ?_) (he _)
  obtain ⟨d, rfl, q⟩ := q1
  cases r1
  exact wpAny_truthy_bool ⟨H1, I1, q⟩
variable {tA tB' : TT} {rest : List Expr}
def tAnd (t u : TT) : TT := fun σ H Q => t σ H fun c H1 => if c = true then u σ H1 Q else Q false H1
def tOr (t u : TT) : TT := fun σ H Q => t σ H fun c H1 => if c = true then Q true H1 else u σ H1 Q
def tNot (t : TT) : TT := fun σ H Q => t σ H fun c H1 => Q (!c) H1
theorem pw_and1 (ha : PT X a tA) : PW X (.BoolOp .And [a] pos) tA := by
  intro wh pins s σ H Q I h
  refine isTrue_and (thn (ha pins s σ H Q I h) fun c s1 e => ?_)
  cases c with
  | true => exact isTrue_and_nil e
  | false => exact e
theorem pw_or1 (ha : PT X a tA) : PW X (.BoolOp .Or [a] pos) tA := by
  intro wh pins s σ H Q I h
  refine isTrue_or (thn (ha pins s σ H Q I h) fun c s1 e => ?_)
  cases c with
  | false => exact isTrue_or_nil e
  | true => exact e
theorem pw_and (ha : PT X a tA) (hb : PW X (.BoolOp .And (b :: rest) pos) tB') : PW X (.BoolOp .And (a :: b :: rest) pos) (tAnd tA tB') := by
  intro wh pins s σ H Q I h
  refine isTrue_and (thn (ha pins s σ H _ I h) fun c s1 ⟨H1, I1, q1⟩ => ?_)
  cases c with
  | true => exact hb wh pins s1 σ H1 Q I1 q1
  | false => exact ⟨H1, I1, q1⟩
theorem pw_or (ha : PT X a tA) (hb : PW X (.BoolOp .Or (b :: rest) pos) tB') : PW X (.BoolOp .Or (a :: b :: rest) pos) (tOr tA tB') := by
  intro wh pins s σ H Q I h
  refine isTrue_or (thn (ha pins s σ H _ I h) fun c s1 ⟨H1, I1, q1⟩ => ?_)
  cases c with
  | true => exact ⟨H1, I1, q1⟩
  | false => exact hb wh pins s1 σ H1 Q I1 q1
theorem pt_not (ha : PT X a tA) : PT X (.UnaryOp .Not a pos) (tNot tA) := by
  intro pins s σ H Q I h
  exact isTrue_not (ha pins s σ H (fun c H1 => Q (!c) H1) I h)
def tAndV (ta tb : TE) : TE := fun σ H Q => ta σ H fun x H1 => ∃ c, x = .bl c ∧ if c = true then tb σ H1 Q else Q (.bl false) H1
def tOrV (ta tb : TE) : TE := fun σ H Q => ta σ H fun x H1 => ∃ c, x = .bl c ∧ if c = true then Q (.bl true) H1 else tb σ H1 Q
def tNotV (ta : TE) : TE := fun σ H Q => ta σ H fun x H1 => ∃ c, x = .bl c ∧ Q (.bl (!c)) H1
theorem pe_one {op} {t : TE} (h : PE X a t) : PE X (.BoolOp op [a] pos) t := fun pins s σ H Q I hw => BoolOp_one (h pins s σ H Q I hw)
theorem pe_and (ha : PE X a ta) (hb : PE X (.BoolOp .And (b :: rest) pos) tb) : PE X (.BoolOp .And (a :: b :: rest) pos) (tAndV ta tb) := by
  intro pins s σ H Q I h
  refine BoolOp_and (thn (ha pins s σ H _ I h) fun v s1 ⟨x, H1, I1, r1, q1⟩ => ?_)
  obtain ⟨c, rfl, q1⟩ := q1
  cases r1
  refine wpAny_truthy_bool ?_
  cases c with
  | true => exact hb pins s1 σ H1 Q I1 q1
  | false => exact ⟨.bl false, H1, I1, rfl, q1⟩
theorem pe_or (ha : PE X a ta) (hb : PE X (.BoolOp .Or (b :: rest) pos) tb) : PE X (.BoolOp .Or (a :: b :: rest) pos) (tOrV ta tb) := by
  intro pins s σ H Q I h
  refine BoolOp_or (thn (ha pins s σ H _ I h) fun v s1 ⟨x, H1, I1, r1, q1⟩ => ?_)
  obtain ⟨c, rfl, q1⟩ := q1
  cases r1
  refine wpAny_truthy_bool ?_
  cases c with
  | false => exact hb pins s1 σ H1 Q I1 q1
  | true => exact ⟨.bl true, H1, I1, rfl, q1⟩
theorem pe_not (ha : PE X a ta) : PE X (.UnaryOp .Not a pos) (tNotV ta) := by
  intro pins s σ H Q I h
  refine UnaryOp_ (thn (ha pins s σ H _ I h) fun v s1 ⟨x, H1, I1, r1, q1⟩ => ?_)
  obtain ⟨c, rfl, q1⟩ := q1
  cases r1
  exact not_of (wpAny_truthy_bool ⟨.bl (!c), H1, I1, rfl, q1⟩)
def tIf (t : TT) (ta tb : TE) : TE := fun σ H Q => t σ H fun c H1 => if c = true then ta σ H1 Q else tb σ H1 Q
theorem pe_ifExp {c : Expr} (hc : PT X c tA) (ha : PE X a ta) (hb : PE X b tb) : PE X (.IfExp c a b pos) (tIf tA ta tb) := by
  intro pins s σ H Q I h
  refine wpAny_IfExp (thn (hc pins s σ H _ I h) fun d s1 ⟨H1, I1, q1⟩ => ?_)
  cases d with
  | true => exact ha pins s1 σ H1 Q I1 q1
  | false => exact hb pins s1 σ H1 Q I1 q1
end
end L2
namespace L2
open PySem PySem.Spec PyProof.Rows
def SqL (K : PySem.W.Frag) (H : Hp) (a : Addr) (xs : List V) : Prop :=
  Rd H a (.lst xs) ∨
    ∃ (o : Obj) (its : Array Value) (n : Nat), K.lookup a = some o ∧ o.cls = .type "list" ∧ o.dict = none ∧ o.data = .seq its n ∧ its.size ≤ sizeLine ∧ Vals xs its.toList
def SqT (K : PySem.W.Frag) (H : Hp) (a : Addr) (xs : List V) : Prop :=
  Rd H a (.tup xs) ∨
    ∃ (o : Obj) (its : Array Value) (n : Nat), K.lookup a = some o ∧ o.cls = .type "tuple" ∧ o.data = .seq its n ∧ its.size ≤ sizeLine ∧ Vals xs its.toList
def absV : Value → Option V
  | .none => some .non
  | .bool b => some (.bl b)
  | .int i _ => some (.int i)
  | .str x _ => some (.str x)
  | .bytes b _ => some (.byt b)
  | .float b _ => some (.flt b)
  | .ref a => some (.ref a)
  | .type n => some (.ty n)
  | _ => none
theorem RelV.abs {x : V} {u : Value} (r : RelV x u) : absV u = some x := by
  cases x with
  | non => cases r; rfl
  | bl _ => cases r; rfl
  | int _ => obtain ⟨t, rfl⟩ := r; rfl
  | str _ => obtain ⟨t, rfl⟩ := r; rfl
  | byt _ => obtain ⟨t, rfl⟩ := r; rfl
  | flt _ => obtain ⟨t, rfl⟩ := r; rfl
  | ref _ => cases r; rfl
  | ty _ => cases r; rfl
theorem RelV.inj {x y : V} {u : Value} (r : RelV x u) (q : RelV y u) : x = y := Option.some.inj (r.abs.symm.trans q.abs)
theorem Vals.inj : ∀ {xs ys : List V} {us : List Value}, Vals xs us → Vals ys us → xs = ys
  | _, _, _, .nil, .nil => rfl
  | _, _, _, .cons r t, .cons r' t' => by rw [r.inj r', Vals.inj t t']
section
variable {X : Cx} {pins : List (Addr × Obj)} {σ : St} {H : Hp} {s : Shared} {a : Addr} {xs ys : List V}
theorem SqL.of {K : PySem.W.Frag} (h : H a = some (.lst xs)) : SqL K H a xs := .inl (.inl h)
theorem SqT.of {K : PySem.W.Frag} (h : H a = some (.tup xs)) : SqT K H a xs := .inl (.inl h)
theorem Inv.list (I : Inv X pins σ H s) (h : SqL X.K H a xs) : ∃ its : List Value, Vals xs its ∧ PlainL s.heap a its.toArray ∧ xs.length ≤ sizeLine := by
  rcases h with h | ⟨o, its, n, hk, hc, hd, hs, hz, r⟩
  · obtain ⟨z, its, n, r, e⟩ := h.ok I.hok
    exact ⟨its, r, ⟨_, n, e, rfl, rfl, rfl⟩, z⟩
  · refine ⟨its.toList, r, ⟨o, n, I.kIn a o hk, hc, hd, by simpa using hs⟩, ?_⟩
    have e := r.length
    simp only [Array.length_toList] at e
    omega
theorem Inv.tuple (I : Inv X pins σ H s) (h : SqT X.K H a xs) : ∃ its : List Value, Vals xs its ∧ IsTup s.heap a its.toArray ∧ xs.length ≤ sizeLine := by
  rcases h with h | ⟨o, its, n, hk, hc, hs, hz, r⟩
  · obtain ⟨z, its, r, p⟩ := h.ok I.hok
    exact ⟨its, r, p.tup, z⟩
  · refine ⟨its.toList, r, ⟨o, I.kIn a o hk, hc, n, by simpa using hs⟩, ?_⟩
    have e := r.length
    simp only [Array.length_toList] at e
    omega
theorem Inv.list_inj (I : Inv X pins σ H s) (h : SqL X.K H a xs) (h' : SqL X.K H a ys) : xs = ys := by
  obtain ⟨its, r, ⟨o, n, e, _, _, d⟩, _⟩ := I.list h
  obtain ⟨its', r', ⟨o', n', e', _, _, d'⟩, _⟩ := I.list h'
  rw [e] at e'; cases e'
  rw [d] at d'
  injection d' with d1 _
  have : its = its' := by simpa using congrArg Array.toList d1
  subst this
  exact r.inj r'
theorem Inv.tuple_inj (I : Inv X pins σ H s) (h : SqT X.K H a xs) (h' : SqT X.K H a ys) : xs = ys := by
  obtain ⟨its, r, ⟨o, e, _, n, d⟩, _⟩ := I.tuple h
  obtain ⟨its', r', ⟨o', e', _, n', d'⟩, _⟩ := I.tuple h'
  rw [e] at e'; cases e'
  rw [d] at d'
  injection d' with d1 _
  have : its = its' := by simpa using congrArg Array.toList d1
  subst this
  exact r.inj r'
end
abbrev Cx.wish (X : Cx) (E : Value → Shared → Prop) : Cx := { X with xe := E }
abbrev Cx.nox (X : Cx) : Cx := X.wish fun _ _ => False
theorem Cx.Ok.wish {X : Cx} (ok : X.Ok) (E : Value → Shared → Prop) : (X.wish E).Ok :=
  ⟨ok.mod, ok.kind, ok.glob, ok.blt, ok.above, ok.inj, ok.has, ok.cab, ok.hd, ok.frames, ok.stk, ok.exf, ok.bs, ok.bsz, ok.noex, ok.exfs, ok.funs, ok.frf⟩
theorem Cx.Ok.unwish {X : Cx} {E : Value → Shared → Prop} (ok : (X.wish E).Ok) : X.Ok :=
  ⟨ok.mod, ok.kind, ok.glob, ok.blt, ok.above, ok.inj, ok.has, ok.cab, ok.hd, ok.frames, ok.stk, ok.exf, ok.bs, ok.bsz, ok.noex, ok.exfs, ok.funs, ok.frf⟩
section
variable {X : Cx} {pins : List (Addr × Obj)} {σ : St} {H : Hp} {s : Shared} {E : Value → Shared → Prop}
theorem Inv.wish (I : Inv X pins σ H s) (E : Value → Shared → Prop) : Inv (X.wish E) pins σ H s := ⟨I.ok.wish E, I.os, I.bare, I.base, I.loc, I.cell, I.free, I.freeC, I.pin, I.hok, I.len⟩
theorem Inv.unwish (I : Inv (X.wish E) pins σ H s) : Inv X pins σ H s := ⟨I.ok.unwish, I.os, I.bare, I.base, I.loc, I.cell, I.free, I.freeC, I.pin, I.hok, I.len⟩
theorem SP.unwish {D : Ends} {f : Flow} {s' : Shared} (h : SP (X.wish E) pins D f s') : SP X pins D f s' := by
  cases f with
  | next => obtain ⟨σ', H', I, q⟩ := h; exact ⟨σ', H', I.unwish, q⟩
  | brk => obtain ⟨σ', H', I, q⟩ := h; exact ⟨σ', H', I.unwish, q⟩
  | cont => obtain ⟨σ', H', I, q⟩ := h; exact ⟨σ', H', I.unwish, q⟩
  | ret u => obtain ⟨v, σ', H', I, r, q⟩ := h; exact ⟨v, σ', H', I.unwish, r, q⟩
theorem PSs.nox {st : List Stmt} {t : TS} (h : PSs X.nox st t) : PSs X st t := fun pins s σ H D I hw =>
  wpAny_mono (h pins s σ H D (I.wish _) hw) (fun _ _ q => q.unwish) fun _ _ z => False.elim z
end
section
variable {X : Cx} {st : Stmt} {rest : List Stmt} {t u : TS} {e : Expr} {te : TE} {pos : Pos}
def tNext : TS := fun D σ H => D.nx σ H
def tSeq (t u : TS) : TS := fun D σ H => t { D with nx := u D } σ H
theorem pss_nil : PSs X [] tNext := fun _ _ σ H _ I h => wpAny_execs_nil ⟨σ, H, I, h⟩
theorem pss_cons (h1 : PS X st t) (h2 : PSs X rest u) : PSs X (st :: rest) (tSeq t u) := by
  intro pins s σ H D I h
  refine wpAny_execs_cons (thn (h1 pins s σ H { D with nx := u D } I h) fun f s1 q => ?_)
  cases f with
  | next =>
    obtain ⟨σ', H', I', q⟩ := q
    exact h2 pins s1 σ' H' D I' q
  | ret v => exact q
  | brk => exact q
  | cont => exact q
theorem pss_one (h1 : PS X st t) : PSs X [st] t := by
  intro pins s σ H D I h
  refine wpAny_execs_cons (thn (h1 pins s σ H D I h) fun f s1 q => ?_)
  cases f with
  | next => exact wpAny_execs_nil q
  | ret v => exact q
  | brk => exact q
  | cont => exact q
theorem Inv.quiet {pins : List (Addr × Obj)} {σ : St} {H : Hp} {s : Shared} (I : Inv X pins σ H s) : interactive X.env = false := by simp [interactive, I.ok.kind]
def tDrop (te : TE) : TS := fun D σ H => te σ H fun _ H1 => D.nx σ H1
theorem ps_expr (he : PE X e te) (hs : swapsWith e none pos.line X.env = pure false := by rfl) : PS X (.Expr e pos) (tDrop te) := by
  intro pins s σ H D I h
  exact wpAny_Expr_any (thn (he pins s σ H _ I h) fun v s1 ⟨x, H1, I1, r1, q1⟩ => ⟨σ, H1, I1, q1⟩) I.quiet hs
def tRet (te : TE) : TS := fun D σ H => te σ H D.rt
theorem ps_ret (he : PE X e te) : PS X (.Return (some e) pos) (tRet te) := by
  intro pins s σ H D I h
  exact wpAny_Return_some (thn (he pins s σ H _ I h) fun v s1 ⟨x, H1, I1, r1, q1⟩ => ⟨x, σ, H1, I1, r1, q1⟩)
def tIfS (c : TT) (t u : TS) : TS := fun D σ H => c σ H fun b H1 => if b = true then t D σ H1 else u D σ H1
theorem ps_if {c : Expr} {a b : List Stmt} {tc : TT} (hc : PT X c tc) (ha : PSs X a t) (hb : PSs X b u) : PS X (.If c a b pos) (tIfS tc t u) := by
  intro pins s σ H D I h
  refine wpAny_If (thn (hc pins s σ H _ I h) fun d s1 ⟨H1, I1, q1⟩ => ?_)
  cases d with
  | true => exact ha pins s1 σ H1 D I1 q1
  | false => exact hb pins s1 σ H1 D I1 q1
end
abbrev TG := V → St → Hp → (St → Hp → Prop) → Prop
abbrev TGs := List V → St → Hp → (St → Hp → Prop) → Prop
def PG (X : Cx) (target : Expr) (t : TG) : Prop :=
  ∀ (pins : List (Addr × Obj)) (s : Shared) (σ : St) (H : Hp) (v : V) (u : Value) (Q : St → Hp → Prop), Inv X pins σ H s → RelV v u → t v σ H Q →
    wpAny (model X.prog X.w) X.A (assign target X.env u) (fun _ s' => ∃ σ' H', Inv X pins σ' H' s' ∧ Q σ' H') X.xe s
def PGs (X : Cx) (ts : List Expr) (t : TGs) : Prop :=
  ∀ (pins : List (Addr × Obj)) (s : Shared) (σ : St) (H : Hp) (vs : List V) (us : List Value) (Q : St → Hp → Prop), Inv X pins σ H s → Vals vs us → t vs σ H Q →
    wpAny (model X.prog X.w) X.A (assignInOrder ((assignEach ts X.env).map (·.2)) us) (fun _ s' => ∃ σ' H', Inv X pins σ' H' s' ∧ Q σ' H') X.xe s
abbrev TIp := V → V → Hp → VK → Prop
def PIp (X : Cx) (op : Operator) (t : TIp) : Prop :=
  ∀ (pins : List (Addr × Obj)) (s : Shared) (σ : St) (H : Hp) (x y : V) (v u : Value) (Q : VK), Inv X pins σ H s → RelV x v → RelV y u → t x y H Q →
    wpAny (model X.prog X.w) X.A (inplaceOp op v u) (EP X pins σ Q) X.xe s
section
variable {X : Cx} {pos : Pos}
def gName (i : Nat) : TG := fun v σ H Q => Q (σ.set i (some v)) H
theorem pg_name {i : Nat} {x : Str} (hN : X.N.Nodup) (hi : X.N[i]? = some x) (hx : Loc X.env.scope x) (hf : X.fn x = true ∨ X.env.scope.names.lookup x = some .local := by first | exact .inl rfl | exact .inr rfl | assumption) : PG X (.Name x pos) (gName i) := by
  intro pins s σ H v u Q I r h
  exact wpAny_assign_Name (store_ok I hN hi hx r (fun s' I' => ⟨_, H, I', h⟩) hf)
def gNil : TGs := fun vs σ H Q => vs = [] ∧ Q σ H
def gCons (t : TG) (u : TGs) : TGs := fun vs σ H Q => ∃ v r, vs = v :: r ∧ t v σ H fun σ' H' => u r σ' H' Q
theorem pgs_nil : PGs X [] gNil := by
  intro pins s σ H vs us Q I r h
  obtain ⟨e, h⟩ := h
  subst e
  cases r
  exact assignInOrder_nil ⟨σ, H, I, h⟩
theorem pgs_cons {e : Expr} {es : List Expr} {t : TG} {u : TGs} (h1 : PG X e t) (h2 : PGs X es u)
    (hs : (assignEach (e :: es) X.env).map (·.2) = assign e X.env :: (assignEach es X.env).map (·.2) := by rfl) : PGs X (e :: es) (gCons t u) := by
  intro pins s σ H vs us Q I r h
  obtain ⟨v, vr, e1, h⟩ := h
  subst e1
  cases r with
  | cons r rr =>
    rw [hs]
    refine assignInOrder_cons (thn (h1 pins s σ H _ _ _ I r h) fun _ s1 ⟨σ1, H1, I1, q1⟩ => ?_)
    exact h2 pins s1 σ1 H1 _ _ Q I1 rr q1
def gTup (K : PySem.W.Frag) (n : Nat) (t : TGs) : TG := fun v σ H Q => ∃ a xs, v = .ref a ∧ SqT K H a xs ∧ xs.length = n ∧ t xs σ H Q
theorem pg_tup {es : List Expr} {k : Nat} {t : TGs} {n : Nat} (hc : X.calm = true) (h : PGs X es t)
    (hn : (assignEach es X.env).length = n := by rfl) (hst : (assignEach es X.env).findIdx? (·.1) = none := by rfl) : PG X (.Tuple es k pos) (gTup X.K n t) := by
  intro pins s σ H v u Q I r hw
  obtain ⟨a, xs, e1, hq, hl, hw⟩ := hw
  subst e1
  cases r
  obtain ⟨its, rv, ht, hz⟩ := I.tuple hq
  refine assign_Tuple_tuple (I.ok.hd hc) ht (by simp [hn, ← hl, rv.length]) hst fun h' hx => ?_
  have I1 : Inv X pins σ H { s with heap := h' } := I.kept (t' := s.toks) fun b o e => hx b o (Nat.ne_of_lt (Heap.lt_size e)) e
  exact h pins _ σ H xs _ Q I1 (by simpa using rv) hw
def tAsg (te : TE) (g : TG) : TS := fun D σ H => te σ H fun x H1 => g x σ H1 D.nx
theorem ps_asg {tg e : Expr} {te : TE} {g : TG} (he : PE X e te) (hg : PG X tg g) (hs : swapsWithSole [tg] e pos.line X.env = pure false := by rfl) (hw : swappedStores [tg] e X.env = pure none := by rfl)
    (h1 : (assignEach [tg] X.env).map (·.2) = [assign tg X.env] := by rfl) : PS X (.Assign [tg] e pos) (tAsg te g) := by
  intro pins s σ H D I h
  refine wpAny_Assign_stores (thn (he pins s σ H _ I h) fun v s1 ⟨x, H1, I1, r1, q1⟩ => ?_) hs hw
  rw [h1]
  exact thn (hg pins s1 σ H1 x v _ I1 r1 q1) fun _ s2 q => q
theorem ps_set {i : Nat} {x : Str} {e : Expr} {te : TE} {pos' : Pos} (hN : X.N.Nodup) (hi : X.N[i]? = some x) (hx : Loc X.env.scope x) (he : PE X e te) (hs : swapsWith e (some (.Name x pos')) pos.line X.env = pure false := by rfl) (hf : X.fn x = true ∨ X.env.scope.names.lookup x = some .local := by first | exact .inl rfl | exact .inr rfl | assumption) :
    PS X (.Assign [.Name x pos'] e pos) (tAsg te (gName i)) := by
  intro pins s σ H D I h
  refine wpAny_Assign_Name (thn (he pins s σ H _ I h) fun v s1 ⟨y, H1, I1, r1, q1⟩ => ?_) hs
  exact store_ok I1 hN hi hx r1 (fun s2 I2 => ⟨_, H1, I2, q1⟩) hf
def tAug (i : Nat) (te : TE) (ti : TIp) : TS := fun D σ H => ∃ x, σ[i]? = some (some x) ∧ te σ H fun y H1 => ti x y H1 fun z H2 => D.nx (σ.set i (some z)) H2
theorem ps_aug {i : Nat} {x : Str} {e : Expr} {te : TE} {op : Operator} {ti : TIp} {pos' : Pos} (hN : X.N.Nodup) (hi : X.N[i]? = some x) (hx : Loc X.env.scope x) (he : PE X e te) (ho : PIp X op ti) (hf : X.fn x = true ∨ X.env.scope.names.lookup x = some .local := by first | exact .inl rfl | exact .inr rfl | assumption) :
    PS X (.AugAssign (.Name x pos') op e pos) (tAug i te ti) := by
  intro pins s σ H D I h
  obtain ⟨v, e1, h⟩ := h
  obtain ⟨m, hn, hl⟩ := I.loc
  have vis : Vis X.env.scope x := by rcases hx with k | k; exact .inl k; exact .inr (.inl k)
  obtain ⟨u, r, l⟩ := hl i x v hi e1 vis
  refine wpAny_AugAssign_Name ?_
  have go : wpAny (model X.prog X.w) X.A (eval e X.env) (fun w s₂ => wpAny (model X.prog X.w) X.A (inplaceOp op u w) (fun r s₃ => wpAny (model X.prog X.w) X.A (storeName X.env x r) (fun _ => SP X pins D .next) X.xe s₃) X.xe s₂) X.xe s := by
    refine thn (he pins s σ H _ I h) fun w s1 ⟨y, H1, I1, r1, q1⟩ => ?_
    refine thn (ho pins s1 σ H1 v y u w _ I1 r r1 q1) fun z s2 ⟨zv, H2, I2, r2, q2⟩ => ?_
    exact store_ok I2 hN hi hx r2 (fun s3 I3 => ⟨_, H2, I3, q2⟩) hf
  rcases l with ⟨hk, hm⟩ | ⟨hk, c, hc, hcell⟩
  · exact wpAny_loadName_local I.ok.kind hk hn hm go
  · rcases hk with hk | hk
    · exact wpAny_loadName_cell I.ok.kind hk hc hcell go
    · rcases hx with k | k
      · have : X.env.scope.names.lookup x = some .free := hk
        rw [k] at this; cases this
      · have : X.env.scope.names.lookup x = some .free := hk
        rw [k] at this; cases this
def ipI (f : Int → Int → Int) : TIp := fun x y H Q => ∃ i j, x = .int i ∧ y = .int j ∧ Q (.int (f i j)) H
theorem ip_add : PIp X .Add (ipI fun i j => i + j) := by
  intro pins s σ H x y v u Q I r1 r2 h
  obtain ⟨i, j, e1, e2, q⟩ := h
  subst e1; subst e2
  obtain ⟨t, rfl⟩ := r1
  obtain ⟨t', rfl⟩ := r2
  exact iadd_int ⟨.int _, H, I.tok _, ⟨_, rfl⟩, q⟩
end
section
variable {X : Cx} {pos : Pos}
def tWhile (c : TT) (tb : TS) : TS := fun D σ H => ∃ W : Nat → St → Hp → Prop, (∃ m, W m σ H) ∧ ∀ m σ H, W m σ H →
  c σ H fun b H1 => if b = true then ∃ N : St → Hp → Prop, (∀ σ' H', N σ' H' → ∃ m', m' < m ∧ W m' σ' H') ∧ tb { D with nx := N, ct := N, bk := D.nx } σ H1 else D.nx σ H1
theorem ps_while {c : Expr} {body : List Stmt} {tc : TT} {tb : TS} (hp : PassesOwn (model X.prog X.w) X.A X.env X.xe) (hc : PT X c tc) (hb : PSs X body tb) : PS X (.While c body [] pos) (tWhile tc tb) := by
  intro pins s σ H D I h
  obtain ⟨W, ⟨m0, w0⟩, turn⟩ := h
  refine wpAny_While (codeAny_whileLoop (fun n s' => ∃ σ' H', Inv X pins σ' H' s' ∧ W n σ' H') ?_ m0 ⟨σ, H, I, w0⟩)
  rintro n s1 ⟨σ1, H1, I1, w1⟩
  refine wpAny_passesOwn hp (thn (hc pins s1 σ1 H1 _ I1 (turn n σ1 H1 w1)) fun b s2 ⟨H2, I2, q2⟩ => ?_)
  cases b with
  | true =>
    obtain ⟨N, hN, q2⟩ := q2
    rw [if_pos rfl]
    refine wpAny_passesOwn hp (thn (hb pins s2 σ1 H2 _ I2 q2) fun f s3 q3 => ?_)
    cases f with
    | next =>
      obtain ⟨σ3, H3, I3, n3⟩ := q3
      obtain ⟨m', hm, w3⟩ := hN σ3 H3 n3
      exact ⟨m', hm, σ3, H3, I3, w3⟩
    | cont =>
      obtain ⟨σ3, H3, I3, n3⟩ := q3
      obtain ⟨m', hm, w3⟩ := hN σ3 H3 n3
      exact ⟨m', hm, σ3, H3, I3, w3⟩
    | brk => exact q3
    | ret v => exact q3
  | false =>
    rw [if_neg Bool.false_ne_true]
    exact wpAny_execs_nil ⟨σ1, H2, I2, q2⟩
end
structure It where
  go : Nat → Hp → Prop
  yld : Nat → Hp → V → Hp → Prop
  stop : Nat → Hp → Prop
def FpOk (X : Cx) (pins : List (Addr × Obj)) (H : Hp) (b : Addr) : Prop :=
  H b = none ∧ b ≠ X.env.locals ∧ b ∉ X.fs ∧ (b ∈ X.ex ∨ X.s₀.heap.objs.size ≤ b) ∧ (∀ x c, X.env.cells.lookup x = some c → c ≠ b) ∧ ∀ p ∈ X.pn ++ pins, p.1 ≠ b
theorem Inv.fpOk {X : Cx} {pins : List (Addr × Obj)} {σ : St} {H H' : Hp} {s : Shared} {b : Addr} (I : Inv X pins σ H s) (hb : s.heap.objs.size ≤ b) (hn : H' b = none) : FpOk X pins H' b := by
  refine ⟨hn, Nat.ne_of_gt (Nat.lt_of_lt_of_le I.lt hb), I.nofs hb, .inr (Nat.le_trans I.sz hb), fun x c e z => ?_, fun p hp z => ?_⟩
  · obtain ⟨v, q⟩ := I.cell x c e
    exact absurd (Nat.lt_of_lt_of_le q.lt (by rw [z]; exact hb)) (Nat.lt_irrefl _)
  · exact absurd (Nat.lt_of_lt_of_le (Heap.lt_size (I.pin p hp).1) (by rw [z]; exact hb)) (Nat.lt_irrefl _)
structure Turn (P : Program) (w : World) (K : PySem.W.Frag) (tg : Expr) (J : It) (fp : List Addr) (it : Addr) (tn : Nat → Heap → Prop) : Prop where
  mem : it ∈ fp
  obj : ∀ i h, tn i h → ∀ b ∈ fp, ∃ o, h.get? b = some o ∧ ∀ v, o.data ≠ .cell v
  keep : ∀ i h h', tn i h → (∀ b ∈ fp, ∀ o, h.get? b = some o → h'.get? b = some o) → tn i h'
  item : ∀ (X : Cx), X.prog = P → X.w = w → X.K = K → X.calm = true → ∀ (i : Nat) (pins : List (Addr × Obj)) (s : Shared) (σ : St) (H : Hp) (E : Value → Shared → Prop), Inv X pins σ H s → (∀ b ∈ fp, FpOk X pins H b) → tn i s.heap → J.go i H →
    wpAny (model P w) X.A (pyNext (.ref it)) (fun r s1 => ∃ u, r = some u ∧
      wpAny (model P w) X.A (letOwnedTupleGo tg (.ref it) u) (fun _ s2 => ∃ x H', Inv X pins σ H' s2 ∧ RelV x u ∧ J.yld i H x H' ∧ tn (i + 1) s2.heap ∧ ∀ b ∈ fp, H' b = none) E s1) E s
  done : ∀ (X : Cx), X.prog = P → X.w = w → X.K = K → X.calm = true → ∀ (i : Nat) (pins : List (Addr × Obj)) (s : Shared) (σ : St) (H : Hp) (E : Value → Shared → Prop), Inv X pins σ H s → (∀ b ∈ fp, FpOk X pins H b) → tn i s.heap → J.stop i H →
    wpAny (model P w) X.A (pyNext (.ref it)) (fun r s1 => r = none ∧ Inv X pins σ H s1) E s
  self : ∀ (A : Around) (i : Nat) (s : Shared) (Q : Value → Shared → Prop) (E : Value → Shared → Prop), tn i s.heap → Q (.ref it) s → wpAny (model P w) A (pyIter (.ref it)) Q E s
abbrev TI := St → Hp → (It → Hp → Prop) → Prop
def PIE (X : Cx) (pins : List (Addr × Obj)) (σ : St) (tg : Expr) (R : It → Hp → Prop) (itv : Value) (s2 : Shared) : Prop :=
  ∃ (it : Addr) (fp : List Addr) (tn : Nat → Heap → Prop) (J : It) (H' : Hp), itv = .ref it ∧ Inv X pins σ H' s2 ∧ Turn X.prog X.w X.K tg J fp it tn ∧ tn 0 s2.heap ∧ (∀ b ∈ fp, FpOk X pins H' b) ∧ R J H'
def PI (X : Cx) (tg iter : Expr) (wi : TI) : Prop :=
  ∀ (pins : List (Addr × Obj)) (s : Shared) (σ : St) (H : Hp) (R : It → Hp → Prop), Inv X pins σ H s → wi σ H R →
    wpAny (model X.prog X.w) X.A (eval iter X.env) (fun v s1 => wpAny (model X.prog X.w) X.A (pyIter v) (PIE X pins σ tg R) X.xe s1) X.xe s
theorem go_of {M : Model} {A : Around} {E : Value → Shared → Prop} {s : Shared} {tg : Expr} {it : Addr} {u : Value} {o : Obj} {n : String} {vs : Array Value} {Q : Unit → Shared → Prop} (ho : s.heap.get? it = some o) (hc : o.cls = .type n) (hd : o.data = .fields vs)
    (hn : ["enumerate", "zip", "dict_itemiterator", "dict_reverseitemiterator", "odict_iterator", "itertools.zip_longest", "itertools.pairwise"].contains n = false) (hQ : Q () s) : wpAny M A (letOwnedTupleGo tg (.ref it) u) Q E s := by
  unfold letOwnedTupleGo
  cases tg <;> first
    | exact wpAny_pure hQ
    | (cases u <;> first
        | exact wpAny_pure hQ
        | (refine wpAny_bind (wpAny_load ho ?_)
           rw [hc, hd]
           show wpAny M A (if (["enumerate", "zip", "dict_itemiterator", "dict_reverseitemiterator", "odict_iterator", "itertools.zip_longest", "itertools.pairwise"].contains n && vs[0]? == some (rawInt _)) = true then _ else _) Q E s
           rw [if_neg (by intro h; rw [hn, Bool.false_and] at h; cases h)]
           exact wpAny_pure hQ))
def Itl (K : PySem.W.Frag) (a : Addr) : It :=
  ⟨fun i H => ∃ xs x, SqL K H a xs ∧ xs[i]? = some x, fun i H x H' => H' = H ∧ ∀ xs, SqL K H a xs → xs[i]? = some x, fun i H => ∃ xs, SqL K H a xs ∧ xs.length ≤ i⟩
def Itt (K : PySem.W.Frag) (a : Addr) : It :=
  ⟨fun i H => ∃ xs x, SqT K H a xs ∧ xs[i]? = some x, fun i H x H' => H' = H ∧ ∀ xs, SqT K H a xs → xs[i]? = some x, fun i H => ∃ xs, SqT K H a xs ∧ xs.length ≤ i⟩
def Itr (lo : Int) (n : Nat) : It := ⟨fun i _ => i < n, fun i H x H' => H' = H ∧ x = .int (lo + i), fun i _ => n ≤ i⟩
theorem turn_list {P : Program} {w : World} {K : PySem.W.Frag} {tg : Expr} (a it : Addr) : Turn P w K tg (Itl K a) [it] it (fun i h => h.IsListIter it a i) where
  mem := by simp
  obj := fun i h st b hb => by
    have e : b = it := by simpa using hb
    subst e
    obtain ⟨o, e, c, d⟩ := st
    exact ⟨o, e, fun v z => by rw [d] at z; cases z⟩
  keep := fun i h h' st k => st.at fun o e => k it (by simp) o e
  item := by
    intro X hP hw hK hc i pins s σ H E I hf st hg
    subst hP hw hK
    obtain ⟨xs, x, hq, hx⟩ := hg
    obtain ⟨its, rv, p, hz⟩ := I.list hq
    obtain ⟨u, hu, ru⟩ := rv.get hx
    obtain ⟨f0, f1, f2, f3, f4, f5⟩ := hf it (by simp)
    refine wpAny_pyNext_list_item st p.isList (x := u) (by simpa using hu) fun h' st' sb => ?_
    have I1 : Inv X pins σ H { s with heap := h' } := I.turned (t' := s.toks) (fun b o hb e => (sb.2 b hb).trans e) f0 f1 f3 f4 f5
    obtain ⟨o, e, c, d⟩ := id st'
    exact ⟨u, rfl, go_of (s := { s with heap := h' }) e c d (by decide) ⟨x, H, I1, ru, ⟨rfl, fun ys hy => by rw [I.list_inj hy hq]; exact hx⟩, st', fun b hb => (hf b hb).1⟩⟩
  done := by
    intro X hP hw hK hc i pins s σ H E I hf st hg
    subst hP hw hK
    obtain ⟨xs, hq, hx⟩ := hg
    obtain ⟨its, rv, p, hz⟩ := I.list hq
    obtain ⟨f0, f1, f2, f3, f4, f5⟩ := hf it (by simp)
    have hl := rv.length
    exact wpAny_pyNext_list_end (I.ok.hd hc) st p.isList (by simp; omega) fun h' eb => ⟨rfl, I.turned (t' := s.toks) (fun b o hb e => eb b o hb e) f0 f1 f3 f4 f5⟩
  self := fun _ _ _ _ _ st h => wpAny_pyIter_listiter st h
theorem turn_tuple {P : Program} {w : World} {K : PySem.W.Frag} {tg : Expr} (a it : Addr) : Turn P w K tg (Itt K a) [it] it (fun i h => h.IsTupleIter it a i) where
  mem := by simp
  obj := fun i h st b hb => by
    have e : b = it := by simpa using hb
    subst e
    obtain ⟨o, e, c, d⟩ := st
    exact ⟨o, e, fun v z => by rw [d] at z; cases z⟩
  keep := fun i h h' st k => st.at fun o e => k it (by simp) o e
  item := by
    intro X hP hw hK hc i pins s σ H E I hf st hg
    subst hP hw hK
    obtain ⟨xs, x, hq, hx⟩ := hg
    obtain ⟨its, rv, p, hz⟩ := I.tuple hq
    obtain ⟨u, hu, ru⟩ := rv.get hx
    obtain ⟨f0, f1, f2, f3, f4, f5⟩ := hf it (by simp)
    refine wpAny_pyNext_tuple_item st (show s.heap.IsTuple a its.toArray from p) (x := u) (by simpa using hu) fun h' st' sb => ?_
    have I1 : Inv X pins σ H { s with heap := h' } := I.turned (t' := s.toks) (fun b o hb e => (sb.2 b hb).trans e) f0 f1 f3 f4 f5
    obtain ⟨o, e, c, d⟩ := id st'
    exact ⟨u, rfl, go_of (s := { s with heap := h' }) e c d (by decide) ⟨x, H, I1, ru, ⟨rfl, fun ys hy => by rw [I.tuple_inj hy hq]; exact hx⟩, st', fun b hb => (hf b hb).1⟩⟩
  done := by
    intro X hP hw hK hc i pins s σ H E I hf st hg
    subst hP hw hK
    obtain ⟨xs, hq, hx⟩ := hg
    obtain ⟨its, rv, p, hz⟩ := I.tuple hq
    obtain ⟨f0, f1, f2, f3, f4, f5⟩ := hf it (by simp)
    have hl := rv.length
    exact wpAny_pyNext_tuple_end (I.ok.hd hc) st (show s.heap.IsTuple a its.toArray from p) (by simp; omega) fun h' eb => ⟨rfl, I.turned (t' := s.toks) (fun b o hb e => eb b o hb e) f0 f1 f3 f4 f5⟩
  self := fun _ _ _ _ _ st h => wpAny_pyIter_tupleiter st h
theorem turn_range {P : Program} {w : World} {K : PySem.W.Frag} {tg : Expr} (it : Addr) (lo : Int) (n : Nat) : Turn P w K tg (Itr lo n) [it] it (fun i h => IsRangeIter h it (lo + (i : Nat) * 1) ((n : Int) - (i : Nat)) 1) where
  mem := by simp
  obj := fun i h st b hb => by
    have e : b = it := by simpa using hb
    subst e
    exact ⟨_, st, fun v z => by
      have z' : Data.fields _ = Data.cell v := z
      cases z'⟩
  keep := fun i h h' st k => k it (by simp) _ st
  item := by
    intro X hP hw hK hc i pins s σ H E I hf st hg
    subst hP hw hK
    obtain ⟨f0, f1, f2, f3, f4, f5⟩ := hf it (by simp)
    have W := Walks.range (prog := X.prog) (w := X.w) (I.ok.hd hc) it lo 1 n
    refine W.item i s _ _ hg st fun v h' tk hv st' kk => ?_
    obtain ⟨t, rfl⟩ := hv
    have I1 : Inv X pins σ H { s with heap := h', toks := tk } := I.turned (fun b o hb e => kk b o (by simpa using hb) e) f0 f1 f3 f4 f5
    refine ⟨_, rfl, go_of (s := { s with heap := h', toks := tk }) (n := "range_iterator") st' rfl rfl (by decide) ⟨.int (lo + i), H, I1, ⟨t, ?_⟩, ⟨rfl, rfl⟩, st', fun b hb => (hf b hb).1⟩⟩
    rw [Int.mul_one]
  done := by
    intro X hP hw hK hc i pins s σ H E I hf st hg
    subst hP hw hK
    obtain ⟨f0, f1, f2, f3, f4, f5⟩ := hf it (by simp)
    exact wpAny_pyNext_range_end (I.ok.hd hc) st (by have : n ≤ i := hg; omega) fun h' eb => ⟨rfl, I.turned (t' := s.toks) (fun b o hb e => eb b o hb e) f0 f1 f3 f4 f5⟩
  self := fun _ _ _ _ _ st h => wpAny_pyIter_rangeiter st h
end L2
namespace L2
open PySem PySem.Spec PyProof.Rows
section
variable {X : Cx} {tg : Expr}
def iList (K : PySem.W.Frag) (tl : TE) : TI := fun σ H R => tl σ H fun x H1 => ∃ a, x = .ref a ∧ (∃ xs, SqL K H1 a xs) ∧ R (Itl K a) H1
def iTup (K : PySem.W.Frag) (tl : TE) : TI := fun σ H R => tl σ H fun x H1 => ∃ a, x = .ref a ∧ (∃ xs, SqT K H1 a xs) ∧ R (Itt K a) H1
theorem pi_list {l : Expr} {tl : TE} (hl : PE X l tl) : PI X tg l (iList X.K tl) := by
  intro pins s σ H R I h
  refine thn (hl pins s σ H _ I h) fun v s1 ⟨x, H1, I1, r1, q1⟩ => ?_
  obtain ⟨a, e, ⟨xs, hq⟩, q⟩ := q1
  subst e
  cases r1
  obtain ⟨its, rv, p, hz⟩ := I1.list hq
  refine wpAny_pyIter_list p.isList ?_
  refine ⟨s1.heap.objs.size, [s1.heap.objs.size], _, _, H1, rfl, I1.kept (t' := s1.toks) fun b o e => Heap.get?_push_of_some _ e, turn_list a _, ⟨_, Heap.get?_push_size _ rfl, rfl, rfl⟩, fun b hb => ?_, q⟩
  have e : b = s1.heap.objs.size := by simpa using hb
  subst e
  exact I1.fpOk (Nat.le_refl _) (I1.hok.fresh (Nat.le_refl _))
theorem pi_tup {l : Expr} {tl : TE} (hl : PE X l tl) : PI X tg l (iTup X.K tl) := by
  intro pins s σ H R I h
  refine thn (hl pins s σ H _ I h) fun v s1 ⟨x, H1, I1, r1, q1⟩ => ?_
  obtain ⟨a, e, ⟨xs, hq⟩, q⟩ := q1
  subst e
  cases r1
  obtain ⟨its, rv, p, hz⟩ := I1.tuple hq
  refine wpAny_pyIter_tuple (show s1.heap.IsTuple a its.toArray from p) ?_
  refine ⟨s1.heap.objs.size, [s1.heap.objs.size], _, _, H1, rfl, I1.kept (t' := s1.toks) fun b o e => Heap.get?_push_of_some _ e, turn_tuple a _, ⟨_, Heap.get?_push_size _ rfl, rfl, rfl⟩, fun b hb => ?_, q⟩
  have e : b = s1.heap.objs.size := by simpa using hb
  subst e
  exact I1.fpOk (Nat.le_refl _) (I1.hok.fresh (Nat.le_refl _))
theorem range_it {pins : List (Addr × Obj)} {σ : St} {H : Hp} {s : Shared} {R : It → Hp → Prop} {E : Value → Shared → Prop} {lo hi : Int} {t u v : Tok} {tk : Nat} (I : Inv X pins σ H s) (h1 : -(2 ^ 62) ≤ lo) (h2 : lo < 2 ^ 62) (h3 : -(2 ^ 62) ≤ hi) (h4 : hi < 2 ^ 62)
    (q : R (Itr lo (hi - lo).toNat) H) : wpAny (model X.prog X.w) X.A (pyIter (.ref s.heap.objs.size)) (PIE X pins σ tg R) E { s with heap := s.heap.push { cls := .type "range", data := .fields #[.int lo t, .int hi u, .int 1 v] }, toks := tk } := by
  refine wpAny_pyIter_range (IsRange.new ..) (small_one h1 h2 h3 h4) ?_
  have I1 : Inv X pins σ H { s with heap := s.heap.push { cls := .type "range", data := .fields #[.int lo t, .int hi u, .int 1 v] }, toks := tk } := I.kept fun b o e => Heap.get?_push_of_some _ e
  refine ⟨(s.heap.push { cls := .type "range", data := .fields #[.int lo t, .int hi u, .int 1 v] }).objs.size, [(s.heap.push { cls := .type "range", data := .fields #[.int lo t, .int hi u, .int 1 v] }).objs.size], _, _, H, rfl,
    I1.kept (t' := tk) fun b o e => Heap.get?_push_of_some _ e, turn_range _ lo (hi - lo).toNat, ?_, fun b hb => ?_, q⟩
  · have e1 : lo + ((0 : Nat) : Int) * 1 = lo := by simp
    have e2 : (((hi - lo).toNat : Nat) : Int) - ((0 : Nat) : Int) = Builtin.Range.rangeSize lo hi 1 := by rw [rangeSize_one]; split <;> omega
    show IsRangeIter _ _ (lo + ((0 : Nat) : Int) * 1) ((((hi - lo).toNat : Nat) : Int) - ((0 : Nat) : Int)) 1
    rw [e1, e2]
    exact Heap.get?_push_size _ rfl
  · have e : b = (s.heap.push { cls := .type "range", data := .fields #[.int lo t, .int hi u, .int 1 v] }).objs.size := by simpa using hb
    subst e
    exact I1.fpOk (Nat.le_refl _) (I1.hok.fresh (Nat.le_refl _))
def iRng1 (ta : TA) : TI := fun σ H R => ta σ H fun vs H1 => ∃ j : Int, vs = [.int j] ∧ -(2 ^ 62) ≤ j ∧ j < 2 ^ 62 ∧ R (Itr 0 j.toNat) H1
def iRng2 (ta : TA) : TI := fun σ H R => ta σ H fun vs H1 => ∃ i j : Int, vs = [.int i, .int j] ∧ (-(2 ^ 62) ≤ i ∧ i < 2 ^ 62 ∧ -(2 ^ 62) ≤ j ∧ j < 2 ^ 62) ∧ R (Itr i (j - i).toNat) H1
theorem pi_range1 {a : Expr} {ta : TA} {p pos : Pos} (hg : Gl X "range") (hm : X.mg "range" = none) (ha : PA X [a] ta) (hs : starEach [a] X.env = [(false, eval a X.env)] := by rfl) : PI X tg (.Call (.Name "range" p) [a] [] pos) (iRng1 ta) := by
  intro pins s σ H R I h
  refine Call_ (ld_blt I hg hm boot_range (PyProof.Rows.callWith_type1 (thn (ha pos pins s σ H _ I h) fun us s1 ⟨vs, H1, I1, r1, q1⟩ => ?_) hs rfl))
  obtain ⟨j, e, q1, q2, q⟩ := q1
  subst e
  cases r1 with
  | cons r rr =>
    cases rr
    obtain ⟨t, rfl⟩ := r
    exact call_range_1 (range_it I1 (by omega) (by omega) q1 q2 (by simpa using q))
theorem pi_range2 {a b : Expr} {ta : TA} {p pos : Pos} (hg : Gl X "range") (hm : X.mg "range" = none) (ha : PA X [a, b] ta) (hs : starEach [a, b] X.env = [(false, eval a X.env), (false, eval b X.env)] := by rfl) (hs2 : starEach [b] X.env = [(false, eval b X.env)] := by rfl) :
    PI X tg (.Call (.Name "range" p) [a, b] [] pos) (iRng2 ta) := by
  intro pins s σ H R I h
  refine Call_ (ld_blt I hg hm boot_range (PyProof.Rows.callWith_type1 (thn (ha pos pins s σ H _ I h) fun us s1 ⟨vs, H1, I1, r1, q1⟩ => ?_) (by rw [hs, hs2]) (by rw [hs2]; rfl)))
  obtain ⟨i, j, e, ⟨q1, q2, q3, q4⟩, q⟩ := q1
  subst e
  cases r1 with
  | cons r rr =>
    cases rr with
    | cons r' rr =>
      cases rr
      obtain ⟨t, rfl⟩ := r
      obtain ⟨t', rfl⟩ := r'
      exact call_range_2 (range_it I1 q1 q2 q3 q4 q)
def tFor (wi : TI) (g : TG) (tb : TS) : TS := fun D σ H => wi σ H fun J H1 => ∃ W : Nat → Nat → St → Hp → Prop, (∃ m, W 0 m σ H1) ∧ ∀ i m σ H, W i m σ H →
  (J.stop i H ∧ D.nx σ H) ∨ (J.go i H ∧ ∃ N : St → Hp → Prop, (∀ σ' H', N σ' H' → ∃ m', m' < m ∧ W (i + 1) m' σ' H') ∧ ∀ x H', J.yld i H x H' → g x σ H' fun σ2 H2 => tb { D with nx := N, ct := N, bk := D.nx } σ2 H2)
def pinsAt (fp : List Addr) (h : Heap) : List (Addr × Obj) := fp.filterMap fun b => (h.get? b).map fun o => (b, o)
theorem mem_pinsAt {fp : List Addr} {h : Heap} {b : Addr} {o : Obj} (hb : b ∈ fp) (e : h.get? b = some o) : (b, o) ∈ pinsAt fp h := List.mem_filterMap.mpr ⟨b, hb, by rw [e]; rfl⟩
theorem of_pinsAt {fp : List Addr} {h : Heap} {p : Addr × Obj} (hp : p ∈ pinsAt fp h) : p.1 ∈ fp ∧ h.get? p.1 = some p.2 := by
  obtain ⟨b, hb, e⟩ := List.mem_filterMap.mp hp
  cases q : h.get? b with
  | none => rw [q] at e; cases e
  | some o =>
    rw [q] at e
    have e' : (b, o) = p := Option.some.inj e
    subst e'
    exact ⟨hb, q⟩
theorem Inv.pinned {pins : List (Addr × Obj)} {σ : St} {H : Hp} {s : Shared} {fp : List Addr} (I : Inv X pins σ H s) (hf : ∀ b ∈ fp, FpOk X pins H b) (ho : ∀ b ∈ fp, ∃ o, s.heap.get? b = some o ∧ ∀ v, o.data ≠ .cell v) : Inv X (pins ++ pinsAt fp s.heap) σ H s :=
  I.pins_of fun p hp => (List.mem_append.mp hp).elim (fun z => I.pin p (List.mem_append_right _ z)) fun z => by
    obtain ⟨hb, e⟩ := of_pinsAt z
    obtain ⟨f0, f1, f2, _⟩ := hf p.1 hb
    obtain ⟨o, e', d⟩ := ho p.1 hb
    rw [e] at e'; cases e'
    exact ⟨e, f0, f1, f2, d⟩
theorem Inv.unpinned {pins pl : List (Addr × Obj)} {σ : St} {H : Hp} {s : Shared} (I : Inv X (pins ++ pl) σ H s) : Inv X pins σ H s := I.pins_of fun p hp => I.pin p (List.mem_append_right _ (List.mem_append_left _ hp))
theorem ps_for {iter : Expr} {body : List Stmt} {wi : TI} {g : TG} {tb : TS} {pos : Pos} (hp : PassesOwn (model X.prog X.w) X.A X.env X.xe) (hc : X.calm = true) (hi : PI X tg iter wi) (hg : PG X tg g) (hb : PSs X body tb)
    (hs : ∀ x, foldedSetIterable iter X.env x = pure x := by intro _; rfl) : PS X (.For tg iter body [] pos) (tFor wi g tb) := by
  intro pins s σ H D I h
  refine wpAny_For (thn (hi pins s σ H _ I h) fun v s1 h1 => thn h1 fun itv s2 h2 => ?_) hs
  obtain ⟨it, fp, tn, J, H2, e, I2, T, st2, f2, W, ⟨m0, w0⟩, turn⟩ := h2
  subst e
  have stat : ∀ {H' : Hp}, (∀ b ∈ fp, H' b = none) → ∀ b ∈ fp, FpOk X pins H' b := fun hn b hb => ⟨hn b hb, (f2 b hb).2⟩
  refine codeAny_forLoop_any (fun n s' => ∃ i σ' H', Inv X pins σ' H' s' ∧ tn i s'.heap ∧ (∀ b ∈ fp, H' b = none) ∧ W i n σ' H') ?_ m0 ⟨0, σ, H2, I2, st2, fun b hb => (f2 b hb).1, w0⟩
  rintro n s3 ⟨i, σ3, H3, I3, st3, fr3, w3⟩
  rcases turn i n σ3 H3 w3 with ⟨stop, qn⟩ | ⟨go, N, hN, step⟩
  · refine wpAny_passesOwn hp (thn (T.done X rfl rfl rfl hc i pins s3 σ3 H3 X.xe I3 (stat fr3) st3 stop) fun r s4 ⟨hr, I4⟩ => ?_)
    subst hr
    exact wpAny_execs_nil ⟨σ3, H3, I4, qn⟩
  · refine wpAny_passesOwn hp (thn (T.item X rfl rfl rfl hc i pins s3 σ3 H3 X.xe I3 (stat fr3) st3 go) fun r s4 ⟨u, hr, h4⟩ => ?_)
    subst hr
    refine wpAny_passesOwn hp (thn h4 fun _ s5 ⟨x, H5, I5, r5, y5, st5, fr5⟩ => ?_)
    have I5' := I5.pinned (stat fr5) (T.obj _ _ st5)
    refine wpAny_passesOwn hp (thn (hg _ s5 σ3 H5 x u _ I5' r5 (step x H5 y5)) fun _ s6 ⟨σ6, H6, I6, q6⟩ => ?_)
    refine wpAny_passesOwn hp (thn (hb _ s6 σ6 H6 _ I6 q6) fun f s7 q7 => ?_)
    have again : ∀ {σ7 : St} {H7 : Hp}, Inv X (pins ++ pinsAt fp s5.heap) σ7 H7 s7 → N σ7 H7 → ∃ m, m < n ∧ ∃ i σ' H', Inv X pins σ' H' s7 ∧ tn i s7.heap ∧ (∀ b ∈ fp, H' b = none) ∧ W i m σ' H' := fun {σ7 H7} I7 n7 => by
      obtain ⟨m', hm, w7⟩ := hN σ7 H7 n7
      refine ⟨m', hm, i + 1, σ7, H7, I7.unpinned, T.keep _ _ _ st5 fun b hb o e => (I7.pin (b, o) (List.mem_append_right _ (List.mem_append_right _ (mem_pinsAt hb e)))).1, fun b hb => ?_, w7⟩
      obtain ⟨o, e, d⟩ := T.obj _ _ st5 b hb
      exact (I7.pin (b, o) (List.mem_append_right _ (List.mem_append_right _ (mem_pinsAt hb e)))).2.1
    cases f with
    | next => obtain ⟨σ7, H7, I7, n7⟩ := q7; exact again I7 n7
    | cont => obtain ⟨σ7, H7, I7, n7⟩ := q7; exact again I7 n7
    | brk => obtain ⟨σ7, H7, I7, q7⟩ := q7; exact ⟨σ7, H7, I7.unpinned, q7⟩
    | ret v => obtain ⟨x7, σ7, H7, I7, r7, q7⟩ := q7; exact ⟨x7, σ7, H7, I7.unpinned, r7, q7⟩
end
theorem for_list {K : PySem.W.Frag} {a : Addr} {xs : List V} {g : TG} {tb : TS} {D : Ends} {σ : St} {H : Hp} (Pv : Nat → St → Hp → Prop) (h0 : Pv 0 σ H) (hl : ∀ i σ H, i ≤ xs.length → Pv i σ H → SqL K H a xs)
    (hs : ∀ i x σ H, xs[i]? = some x → Pv i σ H → g x σ H fun σ2 H2 => tb { D with nx := Pv (i + 1), ct := Pv (i + 1), bk := D.nx } σ2 H2) (hd : ∀ σ H, Pv xs.length σ H → D.nx σ H) :
    ∃ W : Nat → Nat → St → Hp → Prop, (∃ m, W 0 m σ H) ∧ ∀ i m σ H, W i m σ H →
      ((Itl K a).stop i H ∧ D.nx σ H) ∨ ((Itl K a).go i H ∧ ∃ N : St → Hp → Prop, (∀ σ' H', N σ' H' → ∃ m', m' < m ∧ W (i + 1) m' σ' H') ∧ ∀ x H', (Itl K a).yld i H x H' → g x σ H' fun σ2 H2 => tb { D with nx := N, ct := N, bk := D.nx } σ2 H2) := by
  refine ⟨fun i m σ H => m = xs.length - i ∧ i ≤ xs.length ∧ Pv i σ H, ⟨xs.length, by simp, Nat.zero_le _, h0⟩, ?_⟩
  rintro i m σ H ⟨rfl, hi, p⟩
  have q := hl i σ H hi p
  by_cases hlt : i < xs.length
  · refine .inr ⟨⟨xs, xs[i], q, by simp [hlt]⟩, Pv (i + 1), fun σ' H' p' => ⟨xs.length - (i + 1), by omega, rfl, hlt, p'⟩, fun x H' y => ?_⟩
    obtain ⟨e, y⟩ := y
    subst e
    exact hs i x σ _ (y xs q) p
  · have e : i = xs.length := by omega
    subst e
    exact .inl ⟨⟨xs, q, Nat.le_refl _⟩, hd σ H p⟩
theorem for_tup {K : PySem.W.Frag} {a : Addr} {xs : List V} {g : TG} {tb : TS} {D : Ends} {σ : St} {H : Hp} (Pv : Nat → St → Hp → Prop) (h0 : Pv 0 σ H) (hl : ∀ i σ H, i ≤ xs.length → Pv i σ H → SqT K H a xs)
    (hs : ∀ i x σ H, xs[i]? = some x → Pv i σ H → g x σ H fun σ2 H2 => tb { D with nx := Pv (i + 1), ct := Pv (i + 1), bk := D.nx } σ2 H2) (hd : ∀ σ H, Pv xs.length σ H → D.nx σ H) :
    ∃ W : Nat → Nat → St → Hp → Prop, (∃ m, W 0 m σ H) ∧ ∀ i m σ H, W i m σ H →
      ((Itt K a).stop i H ∧ D.nx σ H) ∨ ((Itt K a).go i H ∧ ∃ N : St → Hp → Prop, (∀ σ' H', N σ' H' → ∃ m', m' < m ∧ W (i + 1) m' σ' H') ∧ ∀ x H', (Itt K a).yld i H x H' → g x σ H' fun σ2 H2 => tb { D with nx := N, ct := N, bk := D.nx } σ2 H2) := by
  refine ⟨fun i m σ H => m = xs.length - i ∧ i ≤ xs.length ∧ Pv i σ H, ⟨xs.length, by simp, Nat.zero_le _, h0⟩, ?_⟩
  rintro i m σ H ⟨rfl, hi, p⟩
  have q := hl i σ H hi p
  by_cases hlt : i < xs.length
  · refine .inr ⟨⟨xs, xs[i], q, by simp [hlt]⟩, Pv (i + 1), fun σ' H' p' => ⟨xs.length - (i + 1), by omega, rfl, hlt, p'⟩, fun x H' y => ?_⟩
    obtain ⟨e, y⟩ := y
    subst e
    exact hs i x σ _ (y xs q) p
  · have e : i = xs.length := by omega
    subst e
    exact .inl ⟨⟨xs, q, Nat.le_refl _⟩, hd σ H p⟩
theorem for_range {lo : Int} {n : Nat} {g : TG} {tb : TS} {D : Ends} {σ : St} {H : Hp} (Pv : Nat → St → Hp → Prop) (h0 : Pv 0 σ H)
    (hs : ∀ i σ H, i < n → Pv i σ H → g (.int (lo + i)) σ H fun σ2 H2 => tb { D with nx := Pv (i + 1), ct := Pv (i + 1), bk := D.nx } σ2 H2) (hd : ∀ σ H, Pv n σ H → D.nx σ H) :
    ∃ W : Nat → Nat → St → Hp → Prop, (∃ m, W 0 m σ H) ∧ ∀ i m σ H, W i m σ H →
      ((Itr lo n).stop i H ∧ D.nx σ H) ∨ ((Itr lo n).go i H ∧ ∃ N : St → Hp → Prop, (∀ σ' H', N σ' H' → ∃ m', m' < m ∧ W (i + 1) m' σ' H') ∧ ∀ x H', (Itr lo n).yld i H x H' → g x σ H' fun σ2 H2 => tb { D with nx := N, ct := N, bk := D.nx } σ2 H2) := by
  refine ⟨fun i m σ H => m = n - i ∧ i ≤ n ∧ Pv i σ H, ⟨n, by simp, Nat.zero_le _, h0⟩, ?_⟩
  rintro i m σ H ⟨rfl, hi, p⟩
  by_cases hlt : i < n
  · refine .inr ⟨hlt, Pv (i + 1), fun σ' H' p' => ⟨n - (i + 1), by omega, rfl, hlt, p'⟩, fun x H' y => ?_⟩
    obtain ⟨e, y⟩ := y
    subst e y
    exact hs i σ _ hlt p
  · have e : i = n := by omega
    subst e
    exact .inl ⟨Nat.le_refl _, hd σ H p⟩
end L2
namespace L2
open PySem PySem.Spec PyProof.Rows
abbrev R2 := V → V → Hp → VK → Prop
def OpR (X : Cx) (f : Value → Value → Sem Value) (r : R2) : Prop :=
  ∀ (pins : List (Addr × Obj)) (s : Shared) (σ : St) (H : Hp) (x y : V) (v u : Value) (Q : VK), Inv X pins σ H s → RelV x v → RelV y u → r x y H Q →
    wpAny (model X.prog X.w) X.A (f v u) (EP X pins σ Q) X.xe s
def UnR (X : Cx) (f : Value → Sem Value) (r : V → Hp → VK → Prop) : Prop :=
  ∀ (pins : List (Addr × Obj)) (s : Shared) (σ : St) (H : Hp) (x : V) (v : Value) (Q : VK), Inv X pins σ H s → RelV x v → r x H Q →
    wpAny (model X.prog X.w) X.A (f v) (EP X pins σ Q) X.xe s
def CallR (X : Cx) (f : Value) (r : List V → Hp → VK → Prop) : Prop :=
  ∀ (pins : List (Addr × Obj)) (s : Shared) (σ : St) (H : Hp) (xs : List V) (us : List Value) (Q : VK), Inv X pins σ H s → Vals xs us → r xs H Q →
    wpAny (model X.prog X.w) X.A (call f us) (EP X pins σ Q) X.xe s
def TruR (X : Cx) (r : V → Hp → (Bool → Hp → Prop) → Prop) : Prop :=
  ∀ (pins : List (Addr × Obj)) (s : Shared) (σ : St) (H : Hp) (x : V) (v : Value) (Q : Bool → Hp → Prop), Inv X pins σ H s → RelV x v → r x H Q →
    wpAny (model X.prog X.w) X.A (truthy v) (TP X pins σ Q) X.xe s
def tOp (r : R2) (ta tb : TE) : TE := fun σ H Q => ta σ H fun x H1 => tb σ H1 fun y H2 => r x y H2 Q
def tUn (r : V → Hp → VK → Prop) (ta : TE) : TE := fun σ H Q => ta σ H fun x H1 => r x H1 Q
def rI (C : Int → Int → Prop) (g : Int → Int → V) : R2 := fun x y H Q => ∃ i j, x = .int i ∧ y = .int j ∧ C i j ∧ Q (g i j) H
def rI0 (g : Int → Int → V) : R2 := fun x y H Q => ∃ i j, x = .int i ∧ y = .int j ∧ Q (g i j) H
def rU (g : Int → V) : V → Hp → VK → Prop := fun x H Q => ∃ i, x = .int i ∧ Q (g i) H
section
variable {X : Cx} {a b c : Expr} {ta tb tc : TE} {pos : Pos}
theorem binT (ha : PE X a ta) (hb : PE X b tb) {pins : List (Addr × Obj)} {s : Shared} {σ : St} {H : Hp} {R : V → V → Hp → Prop} (I : Inv X pins σ H s)
    (h : ta σ H fun x H1 => tb σ H1 fun y H2 => R x y H2) {Q : Value → Shared → Prop} {f : Value → Value → Sem Value}
    (hf : ∀ v u s2 x y H2, Inv X pins σ H2 s2 → RelV x v → RelV y u → R x y H2 → wpAny (model X.prog X.w) X.A (f v u) Q X.xe s2) :
    wpAny (model X.prog X.w) X.A (eval a X.env) (fun v s₁ => wpAny (model X.prog X.w) X.A (eval b X.env) (fun u s₂ => wpAny (model X.prog X.w) X.A (f v u) Q X.xe s₂) X.xe s₁) X.xe s := by
  refine thn (ha pins s σ H _ I h) fun v s1 ⟨x, H1, I1, r1, q1⟩ => ?_
  refine thn (hb pins s1 σ H1 _ I1 q1) fun u s2 ⟨y, H2, I2, r2, q2⟩ => ?_
  exact hf v u s2 x y H2 I2 r1 r2 q2
theorem pe_op {op : Operator} {r : R2} (ho : OpR X (binaryOp op) r) (ha : PE X a ta) (hb : PE X b tb) : PE X (.BinOp a op b pos) (tOp r ta tb) := by
  intro pins s σ H Q I h
  exact wpAny_BinOp (binT ha hb I h fun v u s2 x y H2 I2 rx ry q => ho pins s2 σ H2 x y v u Q I2 rx ry q)
theorem pe_un {op : UnaryOp} {r : V → Hp → VK → Prop} (ho : UnR X (unaryOp op) r) (ha : PE X a ta) : PE X (.UnaryOp op a pos) (tUn r ta) := by
  intro pins s σ H Q I h
  exact UnaryOp_ (thn (ha pins s σ H _ I h) fun v s1 ⟨x, H1, I1, r1, q1⟩ => ho pins s1 σ H1 x v Q I1 r1 q1)
theorem opI {f : Value → Value → Sem Value} {C : Int → Int → Prop} {g : Int → Int → Int}
    (rule : ∀ (i j : Int) (t u : Tok) (s : Shared) (Q : Value → Shared → Prop) (E : Value → Shared → Prop), C i j → Q (.int (g i j) s.toks) { s with toks := s.toks + 1 } → wpAny (model X.prog X.w) X.A (f (.int i t) (.int j u)) Q E s) :
    OpR X f (rI C fun i j => .int (g i j)) := by
  intro pins s σ H x y v u Q I rx ry h
  obtain ⟨i, j, rfl, rfl, hc, q⟩ := h
  obtain ⟨t, rfl⟩ := rx
  obtain ⟨t', rfl⟩ := ry
  exact rule i j t t' s _ _ hc ⟨.int (g i j), H, I.tok _, ⟨_, rfl⟩, q⟩
theorem opI0 {f : Value → Value → Sem Value} {g : Int → Int → Int}
    (rule : ∀ (i j : Int) (t u : Tok) (s : Shared) (Q : Value → Shared → Prop) (E : Value → Shared → Prop), Q (.int (g i j) s.toks) { s with toks := s.toks + 1 } → wpAny (model X.prog X.w) X.A (f (.int i t) (.int j u)) Q E s) :
    OpR X f (rI0 fun i j => .int (g i j)) := by
  intro pins s σ H x y v u Q I rx ry h
  obtain ⟨i, j, rfl, rfl, q⟩ := h
  obtain ⟨t, rfl⟩ := rx
  obtain ⟨t', rfl⟩ := ry
  exact rule i j t t' s _ _ ⟨.int (g i j), H, I.tok _, ⟨_, rfl⟩, q⟩
theorem opB0 {f : Value → Value → Sem Value} {g : Int → Int → Bool}
    (rule : ∀ (i j : Int) (t u : Tok) (s : Shared) (Q : Value → Shared → Prop) (E : Value → Shared → Prop), Q (.bool (g i j)) s → wpAny (model X.prog X.w) X.A (f (.int i t) (.int j u)) Q E s) :
    OpR X f (rI0 fun i j => .bl (g i j)) := by
  intro pins s σ H x y v u Q I rx ry h
  obtain ⟨i, j, rfl, rfl, q⟩ := h
  obtain ⟨t, rfl⟩ := rx
  obtain ⟨t', rfl⟩ := ry
  exact rule i j t t' s _ _ ⟨.bl (g i j), H, I, rfl, q⟩
def CDiv (i j : Int) : Prop := 0 < j ∧ j < 1073741824
def CMul (i j : Int) : Prop := (-(2 ^ 64) < i ∧ i < 2 ^ 64) ∨ (-(2 ^ 64) < j ∧ j < 2 ^ 64)
theorem CMul.ok {i j : Int} (h : CMul i j) : IntMulOk i j := by
  rcases h with ⟨h1, h2⟩ | ⟨h1, h2⟩
  · exact .of_left (intBits_le_64 h1 h2)
  · exact .of_right (intBits_le_64 h1 h2)
theorem op_add : OpR X (binaryOp .Add) (rI0 fun i j => .int (i + j)) := opI0 fun _ _ _ _ _ _ _ q => add_int q
theorem op_sub : OpR X (binaryOp .Sub) (rI0 fun i j => .int (i - j)) := opI0 fun _ _ _ _ _ _ _ q => sub_int q
theorem op_fdiv : OpR X (binaryOp .FloorDiv) (rI CDiv fun i j => .int (i / j)) := opI fun i j _ _ _ _ _ hc q => by
  have h1 : (0 : Int) < j := hc.1
  have h2 : j < 1073741824 := hc.2
  exact floordiv_int (by omega) (by rw [Int.fdiv_eq_ediv_of_nonneg i (by omega)]; exact q) (.inl (PyProof.noPylong_small (by omega)))
theorem op_mod : OpR X (binaryOp .Mod) (rI (fun _ j => 0 < j) fun i j => .int (i % j)) := opI fun i j _ _ _ _ _ hc q => by
  have h1 : (0 : Int) < j := hc
  exact mod_int' (by omega) (by rw [Int.fmod_eq_emod_of_nonneg i (by omega)]; exact q)
theorem unI {f : Value → Sem Value} {g : Int → Int}
    (rule : ∀ (i : Int) (t : Tok) (s : Shared) (Q : Value → Shared → Prop) (E : Value → Shared → Prop), Q (.int (g i) s.toks) { s with toks := s.toks + 1 } → wpAny (model X.prog X.w) X.A (f (.int i t)) Q E s) :
    UnR X f (rU fun i => .int (g i)) := by
  intro pins s σ H x v Q I rx h
  obtain ⟨i, rfl, q⟩ := h
  obtain ⟨t, rfl⟩ := rx
  exact rule i t s _ _ ⟨.int (g i), H, I.tok _, ⟨_, rfl⟩, q⟩
theorem un_neg : UnR X (unaryOp .USub) (rU fun i => .int (-i)) := unI fun _ _ _ _ _ q => neg_int q
end
def scal : V → V → Bool
  | .non, .non => true | .non, .int _ => true | .int _, .non => true | .non, .bl _ => true | .bl _, .non => true | .non, .str _ => true | .str _, .non => true
  | .int _, .int _ => true | .bl _, .bl _ => true | .str _, .str _ => true | .byt _, .byt _ => true
  | .int _, .str _ => true | .str _, .int _ => true | .bl _, .str _ => true | .str _, .bl _ => true
  | _, _ => false
def rEq : R2 := fun x y H Q => scal x y = true ∧ Q (.bl (decide (x = y))) H
def rNe : R2 := fun x y H Q => scal x y = true ∧ Q (.bl (!decide (x = y))) H
theorem dec_int {i j : Int} : decide (V.int i = V.int j) = (i == j) := by
  rw [Bool.eq_iff_iff]
  simp
theorem dec_bl {i j : Bool} : decide (V.bl i = V.bl j) = (i == j) := by
  rw [Bool.eq_iff_iff]
  simp
theorem dec_str {i j : Str} : decide (V.str i = V.str j) = (i == j) := by
  rw [Bool.eq_iff_iff]
  simp
theorem dec_byt {i j : Array UInt8} : decide (V.byt i = V.byt j) = (i.toList == j.toList) := by
  rw [Bool.eq_iff_iff]
  cases i
  cases j
  simp
section
variable {X : Cx} {a b c : Expr} {ta tb tc : TE} {pos : Pos}
theorem fin_bl {pins : List (Addr × Obj)} {σ : St} {H : Hp} {s : Shared} {Q : VK} {k k' : Bool} (I : Inv X pins σ H s) (q : Q (.bl k) H) (e : k = k') : EP X pins σ Q (.bool k') s := by
  subst e
  exact ⟨.bl k, H, I, rfl, q⟩
theorem op_eq : OpR X (compareOp .Eq) rEq := by
  intro pins s σ H x y v u Q I rx ry h
  obtain ⟨hs, q⟩ := h
  cases x with
  | non =>
    cases rx
    cases y with
    | non => cases ry; exact PySem.EqNone.eq_none_none (fin_bl I q (by simp))
    | bl j => cases ry; exact PySem.EqNone.eq_none_bool (fin_bl I q (by simp))
    | int j => obtain ⟨t', rfl⟩ := ry; exact PySem.EqNone.eq_none_int (fin_bl I q (by simp))
    | str j => obtain ⟨t', rfl⟩ := ry; exact PySem.EqNone.eq_none_str (fin_bl I q (by simp))
    | _ => exact absurd (show false = true from hs) Bool.false_ne_true
  | bl i =>
    cases rx
    cases y with
    | non => cases ry; exact PySem.EqNone.eq_bool_none (fin_bl I q (by simp))
    | bl j => cases ry; exact eq_bool (fin_bl I q dec_bl)
    | str j => obtain ⟨t', rfl⟩ := ry; exact PySem.EqMixed.eq_bool_str (fin_bl I q (by simp))
    | _ => exact absurd (show false = true from hs) Bool.false_ne_true
  | int i =>
    obtain ⟨t, rfl⟩ := rx
    cases y with
    | non => cases ry; exact PySem.EqNone.eq_int_none (fin_bl I q (by simp))
    | int j => obtain ⟨t', rfl⟩ := ry; exact eq_int (fin_bl I q dec_int)
    | str j => obtain ⟨t', rfl⟩ := ry; exact PySem.EqMixed.eq_int_str (fin_bl I q (by simp))
    | _ => exact absurd (show false = true from hs) Bool.false_ne_true
  | str i =>
    obtain ⟨t, rfl⟩ := rx
    cases y with
    | non => cases ry; exact PySem.EqNone.eq_str_none (fin_bl I q (by simp))
    | bl j => cases ry; exact PySem.EqMixed.eq_str_bool (fin_bl I q (by simp))
    | int j => obtain ⟨t', rfl⟩ := ry; exact PySem.EqMixed.eq_str_int (fin_bl I q (by simp))
    | str j => obtain ⟨t', rfl⟩ := ry; exact eq_str (fin_bl I q dec_str)
    | _ => exact absurd (show false = true from hs) Bool.false_ne_true
  | byt i =>
    obtain ⟨t, rfl⟩ := rx
    cases y with
    | byt j => obtain ⟨t', rfl⟩ := ry; exact PySem.W.eq_bytes (fin_bl I q dec_byt)
    | _ => exact absurd (show false = true from hs) Bool.false_ne_true
  | _ => cases y <;> exact absurd (show false = true from hs) Bool.false_ne_true
theorem op_ne : OpR X (compareOp .NotEq) rNe := by
  intro pins s σ H x y v u Q I rx ry h
  obtain ⟨hs, q⟩ := h
  cases x with
  | non =>
    cases rx
    cases y with
    | non => cases ry; exact PySem.EqNone.ne_none_none (fin_bl I q (by simp))
    | bl j => cases ry; exact PySem.EqNone.ne_none_bool (fin_bl I q (by simp))
    | int j => obtain ⟨t', rfl⟩ := ry; exact PySem.EqNone.ne_none_int (fin_bl I q (by simp))
    | str j => obtain ⟨t', rfl⟩ := ry; exact PySem.EqNone.ne_none_str (fin_bl I q (by simp))
    | _ => exact absurd (show false = true from hs) Bool.false_ne_true
  | bl i =>
    cases rx
    cases y with
    | non => cases ry; exact PySem.EqNone.ne_bool_none (fin_bl I q (by simp))
    | bl j => cases ry; exact ne_bool (fin_bl I q (congrArg not dec_bl))
    | str j => obtain ⟨t', rfl⟩ := ry; exact PySem.EqMixed.ne_bool_str (fin_bl I q (by simp))
    | _ => exact absurd (show false = true from hs) Bool.false_ne_true
  | int i =>
    obtain ⟨t, rfl⟩ := rx
    cases y with
    | non => cases ry; exact PySem.EqNone.ne_int_none (fin_bl I q (by simp))
    | int j => obtain ⟨t', rfl⟩ := ry; exact ne_int (fin_bl I q (congrArg not dec_int))
    | str j => obtain ⟨t', rfl⟩ := ry; exact PySem.EqMixed.ne_int_str (fin_bl I q (by simp))
    | _ => exact absurd (show false = true from hs) Bool.false_ne_true
  | str i =>
    obtain ⟨t, rfl⟩ := rx
    cases y with
    | non => cases ry; exact PySem.EqNone.ne_str_none (fin_bl I q (by simp))
    | bl j => cases ry; exact PySem.EqMixed.ne_str_bool (fin_bl I q (by simp))
    | int j => obtain ⟨t', rfl⟩ := ry; exact PySem.EqMixed.ne_str_int (fin_bl I q (by simp))
    | str j => obtain ⟨t', rfl⟩ := ry; exact ne_str (fin_bl I q (congrArg not dec_str))
    | _ => exact absurd (show false = true from hs) Bool.false_ne_true
  | byt i =>
    obtain ⟨t, rfl⟩ := rx
    cases y with
    | byt j => obtain ⟨t', rfl⟩ := ry; exact PySem.W.ne_bytes (fin_bl I q (congrArg not dec_byt))
    | _ => exact absurd (show false = true from hs) Bool.false_ne_true
  | _ => cases y <;> exact absurd (show false = true from hs) Bool.false_ne_true
theorem op_lt : OpR X (compareOp .Lt) (rI0 fun i j => .bl (decide (i < j))) := opB0 fun _ _ _ _ _ _ _ q => lt_int q
theorem op_le : OpR X (compareOp .LtE) (rI0 fun i j => .bl (decide (i ≤ j))) := opB0 fun _ _ _ _ _ _ _ q => le_int q
theorem op_gt : OpR X (compareOp .Gt) (rI0 fun i j => .bl (decide (j < i))) := opB0 fun _ _ _ _ _ _ _ q => gt_int q
theorem op_ge : OpR X (compareOp .GtE) (rI0 fun i j => .bl (decide (j ≤ i))) := opB0 fun _ _ _ _ _ _ _ q => ge_int q
theorem op_isN : OpR X (compareOp .Is) (fun x y H Q => y = .non ∧ Q (.bl (decide (x = .non))) H) := by
  intro pins s σ H x y v u Q I rx ry h
  obtain ⟨rfl, q⟩ := h
  cases ry
  refine is_none_gen (fin_bl I q ?_)
  cases x <;> first
    | (cases rx; rfl)
    | (obtain ⟨t, rfl⟩ := rx; rfl)
theorem op_notN : OpR X (compareOp .IsNot) (fun x y H Q => y = .non ∧ Q (.bl (!decide (x = .non))) H) := by
  intro pins s σ H x y v u Q I rx ry h
  obtain ⟨rfl, q⟩ := h
  cases ry
  refine isnot_none_gen (fin_bl I q ?_)
  cases x <;> first
    | (cases rx; rfl)
    | (obtain ⟨t, rfl⟩ := rx; rfl)
theorem nomark (b : Expr) {op : CmpOp} (h : op ≠ .In := by decide) (h2 : op ≠ .NotIn := by decide) : behindInMarks op b = false := by
  have e1 : (op == CmpOp.In) = false := by cases op <;> first | rfl | exact absurd rfl h
  have e2 : (op == CmpOp.NotIn) = false := by cases op <;> first | rfl | exact absurd rfl h2
  cases b <;> simp [behindInMarks, e1, e2]
theorem pe_cmpR {op : CmpOp} {r : R2} (ho : OpR X (compareOp op) r) (ha : PE X a ta) (hb : PE X b tb) (hm : behindInMarks op b = false) : PE X (.Compare a [op] [b] pos) (tOp r ta tb) := by
  intro pins s σ H Q I h
  exact wpAny_Compare1 (binT ha hb I h fun v u s2 x y H2 I2 rx ry q => ho pins s2 σ H2 x y v u Q I2 rx ry q) hm
def tTest (t : TE) : TT := fun σ H Q => t σ H fun x H' => ∃ k, x = .bl k ∧ Q k H'
theorem pt_cmpR {op : CmpOp} {r : R2} (ho : OpR X (compareOp op) r) (ha : PE X a ta) (hb : PE X b tb) (hm : behindInMarks op b = false) : PT X (.Compare a [op] [b] pos) (tTest (tOp r ta tb)) := by
  intro pins s σ H Q I h
  refine wpAny_isTrue_Compare1 (thn (ha pins s σ H _ I h) fun v s1 ⟨x, H1, I1, r1, q1⟩ => thn (hb pins s1 σ H1 _ I1 q1) fun u s2 ⟨y, H2, I2, r2, q2⟩ =>
    thn (ho pins s2 σ H2 x y v u _ I2 r1 r2 q2) fun c s3 ⟨z, H3, I3, r3, k, e, q3⟩ => ?_) hm
  subst e
  cases r3
  exact wpAny_truthy_bool ⟨H3, I3, q3⟩
def tChain (r r' : R2) (ta tb tc : TE) : TE := fun σ H Q => ta σ H fun x H1 => tb σ H1 fun y H2 => r x y H2 fun z H3 => ∃ k, z = .bl k ∧
  (if k = true then tc σ H3 fun w' H4 => r' y w' H4 Q else Q (.bl false) H3)
theorem pt_chain {op op' : CmpOp} {r r' : R2} (ho : OpR X (compareOp op) r) (ho' : OpR X (compareOp op') r') (ha : PE X a ta) (hb : PE X b tb) (hc : PE X c tc)
    (hm : lastMarks [op, op'] [b, c] = false := by with_unfolding_all rfl) : PT X (.Compare a [op, op'] [b, c] pos) (tTest (tChain r r' ta tb tc)) := by
  intro pins s σ H Q I h
  refine isTrue_chain (thn (ha pins s σ H _ I h) fun v s1 ⟨x, H1, I1, r1, q1⟩ => test_link (thn (hb pins s1 σ H1 _ I1 q1) fun u s2 ⟨y, H2, I2, r2, q2⟩ =>
    thn (ho pins s2 σ H2 x y v u _ I2 r1 r2 q2) fun d s3 ⟨z, H3, I3, r3, k, e, q3⟩ => ?_)) hm
  subst e
  cases r3
  refine wpAny_truthy_bool ?_
  cases k with
  | false =>
    obtain ⟨k', e', q'⟩ := q3
    cases e'
    exact ite_ff ⟨H3, I3, q'⟩
  | true =>
    refine ite_tt (test_last (thn (hc pins s3 σ H3 _ I3 q3) fun w' s4 ⟨z', H4, I4, r4, q4⟩ => thn (ho' pins s4 σ H4 y z' u w' _ I4 r2 r4 q4) fun d' s5 ⟨z2, H5, I5, r5, k2, e2, q5⟩ => ?_))
    subst e2
    cases r5
    exact wpAny_truthy_bool ⟨H5, I5, q5⟩
def TruV (K : PySem.W.Frag) (x : V) (H : Hp) (k : Bool) : Prop :=
  match x with
  | .non => k = false
  | .bl b => k = b
  | .int i => k = (i != 0)
  | .str y => y.length ≤ sizeLine ∧ k = ((y.length : Int) != 0)
  | .byt y => y.size ≤ sizeLine ∧ k = ((y.size : Int) != 0)
  | .ref p => (∃ xs, SqL K H p xs ∧ k = !xs.isEmpty) ∨ (∃ xs, SqT K H p xs ∧ k = !xs.isEmpty) ∨ ∃ kvs, H p = some (.dK kvs) ∧ k = !kvs.isEmpty
  | _ => False
theorem isEmpty_kv {κ : Type} {kvs : List (κ × V)} {vs : List (κ × Value)} (r : KV kvs vs) : (!vs.isEmpty) = !kvs.isEmpty := by
  cases r <;> rfl
theorem isEmpty_of {xs : List V} {its : List Value} (r : Vals xs its) : (!its.toArray.isEmpty) = !xs.isEmpty := by
  cases r <;> simp
theorem line63 : (sizeLine : Nat) < 2 ^ 63 := by rw [sizeLine_eq]; decide
theorem tru_ok : TruR X (fun x H Q => ∃ k, TruV X.K x H k ∧ Q k H) := by
  intro pins s σ H x v Q I rx h
  obtain ⟨k, e, q⟩ := h
  have hl := line63
  have hs : sizeLine = 16777216 := sizeLine_eq
  cases x with
  | non =>
    cases rx
    have e' : k = false := e
    subst e'
    exact truthy_none ⟨H, I, q⟩
  | bl b =>
    cases rx
    have e' : k = b := e
    subst e'
    exact wpAny_truthy_bool ⟨H, I, q⟩
  | int i =>
    obtain ⟨t, rfl⟩ := rx
    have e' : k = (i != 0) := e
    subst e'
    exact PySem.P.truthy_int ⟨H, I, q⟩
  | str y =>
    obtain ⟨t, rfl⟩ := rx
    obtain ⟨hy, e'⟩ : y.length ≤ sizeLine ∧ k = ((y.length : Int) != 0) := e
    subst e'
    exact PySem.P.truthy_str (by omega) ⟨H, I.tok _, q⟩
  | byt y =>
    obtain ⟨t, rfl⟩ := rx
    obtain ⟨hy, e'⟩ : y.size ≤ sizeLine ∧ k = ((y.size : Int) != 0) := e
    subst e'
    exact PySem.W.truthy_bytes (by omega) ⟨H, I.tok _, q⟩
  | ref p =>
    cases rx
    have e' : (∃ xs, SqL X.K H p xs ∧ k = !xs.isEmpty) ∨ (∃ xs, SqT X.K H p xs ∧ k = !xs.isEmpty) ∨ ∃ kvs, H p = some (.dK kvs) ∧ k = !kvs.isEmpty := e
    rcases e' with ⟨xs, hx, e'⟩ | ⟨xs, hx, e'⟩ | ⟨kvs, hx, e'⟩
    · subst e'
      obtain ⟨its, r, pl, hz⟩ := I.list hx
      have hlen := r.length
      exact wpAny_truthy_list pl.isList (by simp only [List.size_toArray]; omega) ⟨H, I.tok _, by rw [isEmpty_of r]; exact q⟩
    · subst e'
      obtain ⟨its, r, pl, hz⟩ := I.tuple hx
      have hlen := r.length
      exact truthy_tuple pl (by simp only [List.size_toArray]; omega) ⟨H, I.tok _, by rw [isEmpty_of r]; exact q⟩
    · subst e'
      obtain ⟨hz, hS, vs, r, m⟩ : kvs.length ≤ sizeLine ∧ (p == sysModules) = false ∧ ∃ vs, KV kvs vs ∧ s.heap.DictOf (mixKind X.prog X.w) p vs := I.hok p _ hx
      have hlen : kvs.length = vs.length := Paired.length r
      exact wpAny_truthy_dict hS m (by omega) ⟨H, I.tok _, by rw [isEmpty_kv r]; exact q⟩
  | _ => exact (show False from e).elim
theorem pt_truth (ha : PE X a ta) (he : ∀ whole, isTrue a X.env whole = (do let v ← whole; standAt a.pos; holding [v] (truthy v))) :
    PT X a (fun σ H Q => ta σ H fun x H' => ∃ k, TruV X.K x H' k ∧ Q k H') := by
  intro pins s σ H Q I h
  exact isTrue_plain (thn (ha pins s σ H _ I h) fun v s1 ⟨x, H1, I1, r1, q1⟩ => tru_ok pins s1 σ H1 x v Q I1 r1 q1) (he _)
theorem vals1 {x : V} {us : List Value} (r : Vals [x] us) : ∃ u, us = [u] ∧ RelV x u := by
  cases r with
  | cons r1 r2 => cases r2; exact ⟨_, rfl, r1⟩
theorem vals2 {x y : V} {us : List Value} (r : Vals [x, y] us) : ∃ u w', us = [u, w'] ∧ RelV x u ∧ RelV y w' := by
  cases r with
  | cons r1 r2 =>
    cases r2 with
    | cons r3 r4 => cases r4; exact ⟨_, _, rfl, r1, r3⟩
theorem call_max2 (hc : X.calm = true) : CallR X (.builtin "max") (fun xs H Q => ∃ i j, xs = [.int i, .int j] ∧ Q (.int (if j > i then j else i)) H) := by
  intro pins s σ H xs us Q I r h
  obtain ⟨i, j, rfl, q⟩ := h
  obtain ⟨u, w', rfl, ⟨t, rfl⟩, ⟨t', rfl⟩⟩ := vals2 r
  refine max_two_ints (I.ok.hd hc) fun h' tk k => ⟨_, H, I.kept k, ?_, q⟩
  by_cases hj : j > i
  · rw [if_pos hj, if_pos hj]; exact ⟨_, rfl⟩
  · rw [if_neg hj, if_neg hj]; exact ⟨_, rfl⟩
theorem call_min2 (hc : X.calm = true) : CallR X (.builtin "min") (fun xs H Q => ∃ i j, xs = [.int i, .int j] ∧ Q (.int (if j < i then j else i)) H) := by
  intro pins s σ H xs us Q I r h
  obtain ⟨i, j, rfl, q⟩ := h
  obtain ⟨u, w', rfl, ⟨t, rfl⟩, ⟨t', rfl⟩⟩ := vals2 r
  refine min_two_ints (I.ok.hd hc) fun h' tk k => ⟨_, H, I.kept k, ?_, q⟩
  by_cases hj : j < i
  · rw [if_pos hj, if_pos hj]; exact ⟨_, rfl⟩
  · rw [if_neg hj, if_neg hj]; exact ⟨_, rfl⟩
theorem call_int1 : CallR X (.type "int") (fun xs H Q => (∃ i, xs = [.int i] ∧ Q (.int i) H) ∨ ∃ k, xs = [.bl k] ∧ Q (.int (if k then 1 else 0)) H) := by
  intro pins s σ H xs us Q I r h
  rcases h with ⟨i, rfl, q⟩ | ⟨k, rfl, q⟩
  · obtain ⟨u, rfl, t, rfl⟩ := vals1 r
    exact call_int_int ⟨.int i, H, I, ⟨_, rfl⟩, q⟩
  · obtain ⟨u, rfl, r1⟩ := vals1 r
    cases r1
    exact call_int_bool ⟨.int (if k then 1 else 0), H, I.tok _, ⟨_, rfl⟩, q⟩
end
end L2
namespace L2
open PySem PySem.Spec PyProof.Rows
structure ObjM (h : Heap) (x dx C : Addr) (mA : Str → Option Value) : Prop where
  obj : h.get? x = some (PySem.W.instObj C dx)
  ns : h.Ns1 dx mA
  ne : dx ≠ x
theorem lookIn_ns {h : Heap} {dx : Addr} {mA : Str → Option Value} (n : h.Ns1 dx mA) : ∃ od, h.get? dx = some od ∧ ∀ name, PySem.W.lookIn name od = some (mA name) := by
  obtain ⟨o, es, ep, ho, hd, hk, _, hm⟩ := n
  refine ⟨o, ho, fun name => ?_⟩
  have e := hm name
  unfold nsFind findBy at e
  rw [← Array.find?_toList] at e
  unfold PySem.W.lookIn
  rw [hd]
  dsimp only
  split
  · rename_i y q
    rw [q] at e
    exact congrArg some e
  · rename_i q
    rw [q] at e
    have a : es.toList.any (·.refKey) = false := by
      rw [List.any_eq_false]
      intro y hy
      obtain ⟨z, t, hkey⟩ := hk y (Array.mem_toList_iff.mp hy)
      simp [DictEntry.refKey, hkey]
    have a' : ¬ es.toList.any (·.refKey) = true := by rw [a]; exact Bool.false_ne_true
    rw [if_neg a']
    exact congrArg some e
theorem ObjM.look {h : Heap} {x dx C : Addr} {mA : Str → Option Value} (I : ObjM h x dx C mA) : ∃ od, PySem.W.InstAt h x (PySem.W.instObj C dx) C (some od) ∧ ∀ name, PySem.W.lookIn name od = some (mA name) :=
  let ⟨od, ho, hl⟩ := lookIn_ns I.ns
  ⟨od, ⟨I.obj, rfl, rfl, ho⟩, hl⟩
section
variable {prog : Program} {w : World} {A : Around} {E : Value → Shared → Prop} {s : Shared} {K : PySem.W.Frag} {x dx C f : Addr} {mA : Str → Option Value} {name : Str} {v : Value}
end
def putF (f : Str) (v : V) : List (Str × V) → List (Str × V)
  | [] => [(f, v)]
  | (g, x) :: r => if g = f then (g, v) :: r else (g, x) :: putF f v r
theorem RelO.some_of {v : V} {o : Option Value} (r : RelO (some v) o) : ∃ u, o = some u ∧ RelV v u := by
  cases o with
  | none => exact (show False from r).elim
  | some u => exact ⟨u, rfl, r⟩
section
variable {P : Program} {w : World} {H H' : Hp} {h h' : Heap} {a C dx : Addr} {fs fs' : List (Str × V)}
theorem ins_get (hok : HOk P w H h) (e : H a = some (.ins C dx fs)) : ∃ mA, ObjM h a dx C mA ∧ (∀ f, RelO (fs.lookup f) (mA f)) ∧ PySem.Within mA (fs.map (·.1)) ∧ fs.length ≤ 1000 ∧ H dx = some (.own a) := by
  obtain ⟨d, z, ne, ob, mA, n, r, q⟩ := (show ObjOk P w H h a (.ins C dx fs) from hok a _ e)
  exact ⟨mA, ⟨ob, n, ne⟩, r, q, z, d⟩
end
structure Cls (K : PySem.W.Frag) (C : Addr) : Prop where
  pg : PySem.W.plainGet K C Str.empty = true
  hd : PySem.W.hasDictIn K C = true
  po : PySem.W.plainOver K C = true
  sa : PySem.W.findIn K (.ref C) "__setattr__" = some (some (.builtin "object.__setattr__"))
theorem Cls.get {K : PySem.W.Frag} {C : Addr} (c : Cls K C) (f : Str) : PySem.W.plainGet K C f = true := c.pg
structure Con (K : PySem.W.Frag) (C : Addr) (f : Str) (v : V) (u : Value) : Prop where
  at_ : PySem.W.findIn K (.ref C) f = some (some u)
  rel : RelV v u
  get : PySem.W.specialIn K u "__get__" = some none
  cp : PySem.W.copiedNames.contains f = false
structure Meth (K : PySem.W.Frag) (C : Addr) (m : Str) (f : Addr) : Prop where
  at_ : PySem.W.findIn K (.ref C) m = some (some (.ref f))
  fn : PySem.W.isFn K (.ref f) = true
  kp : PySem.W.keepIn K (.ref f) = true
section
variable {X : Cx} {pins : List (Addr × Obj)} {σ : St} {H : Hp} {s : Shared} {a C dx : Addr} {fs : List (Str × V)} {f : Str} {v : V} {A : Around} {E : Value → Shared → Prop}
end
section
variable {X : Cx} {o e value : Expr} {f : Str} {pos pos' tpos : Pos} {ta tv : TE}
end
section
variable {X : Cx} {pins : List (Addr × Obj)} {σ : St} {H : Hp} {s : Shared} {A : Around} {E : Value → Shared → Prop} {Q : Value → Shared → Prop} {c : Value} {b : Bool}
inductive TyOf (K : PySem.W.Frag) (H : Hp) : V → Value → Prop where
  | non : TyOf K H .non (.type "NoneType")
  | bl (x : Bool) : TyOf K H (.bl x) (.type "bool")
  | int (i : Int) : TyOf K H (.int i) (.type "int")
  | str (x : Str) : TyOf K H (.str x) (.type "str")
  | flt (x : UInt64) : TyOf K H (.flt x) (.type "float")
  | lst {a : Addr} {xs : List V} (e : H a = some (.lst xs)) : TyOf K H (.ref a) (.type "list")
  | frz {a : Addr} {o : Obj} {xs : List V} (e : H a = some (.frz o (.lst xs))) : TyOf K H (.ref a) (.type "list")
  | tup {a : Addr} {xs : List V} (e : H a = some (.tup xs)) : TyOf K H (.ref a) (.type "tuple")
  | dK {a : Addr} {kvs : List (Key × V)} (e : H a = some (.dK kvs)) : TyOf K H (.ref a) (.type "dict")
  | dT {a : Addr} {kvs : List (List Key × V)} (e : H a = some (.dT kvs)) : TyOf K H (.ref a) (.type "dict")
  | ins {a C dx : Addr} {fs : List (Str × V)} (e : H a = some (.ins C dx fs)) (cl : Cls K C) (ha : PySem.W.findIn K (.ref C) "__class__" = some (some (.builtin "object.__class__")))
      (hn : PySem.W.specialIn K (.builtin "object.__class__") "__get__" = some (some (.builtin "getset_descriptor.__get__"))) (htk : PySem.W.takesIn K (.builtin "object.__class__") = some true)
      (hm : PySem.W.mroIn K C (.type "object") = some true) : TyOf K H (.ref a) (.ref C)
theorem isinst_ok {x : V} {u t : Value} (I : Inv X pins σ H s) (rx : RelV x u) (ty : TyOf X.K H x t) (e : PySem.W.kitOne X.K t c = some b) (h : ∀ tk, Q (.bool b) { s with toks := tk }) :
    wpAny (model X.prog X.w) A (call (.builtin "isinstance") [u, c]) Q E s := by
  cases ty with
  | non => cases (show u = Value.none from rx); exact PySem.W.kia_one PySem.W.kitx_none I.kIn True.intro e (fun z => nomatch z) h
  | bl y => cases (show u = Value.bool y from rx); exact PySem.W.kia_one PySem.W.kitx_bool I.kIn True.intro e (fun z => nomatch z) h
  | int i => obtain ⟨t, q⟩ := (show ∃ t, u = Value.int i t from rx); cases q; exact PySem.W.kia_one PySem.W.kitx_int I.kIn True.intro e (fun z => nomatch z) h
  | str y => obtain ⟨t, q⟩ := (show ∃ t, u = Value.str y t from rx); cases q; exact PySem.W.kia_one PySem.W.kitx_str I.kIn True.intro e (fun z => nomatch z) h
  | flt y => obtain ⟨t, q⟩ := (show ∃ t, u = Value.float y t from rx); cases q; exact PySem.W.kia_one PySem.W.kitx_float I.kIn True.intro e (fun z => nomatch z) h
  | @lst a xs ea =>
    cases (show u = Value.ref a from rx)
    obtain ⟨_, _, n, _, h1⟩ := (show ObjOk X.prog X.w H s.heap a (.lst xs) from I.hok a _ ea)
    exact PySem.W.kia_one PySem.W.kitx_list I.kIn ⟨_, h1, rfl⟩ e (fun z => nomatch z) h
  | @frz a ob xs ea =>
    cases (show u = Value.ref a from rx)
    obtain ⟨_, _, _, n, _, h1⟩ := (show ObjOk X.prog X.w H s.heap a (.frz ob (.lst xs)) from I.hok a _ ea)
    exact PySem.W.kia_one PySem.W.kitx_list I.kIn ⟨_, h1, rfl⟩ e (fun z => nomatch z) h
  | @tup a xs ea =>
    cases (show u = Value.ref a from rx)
    obtain ⟨_, _, _, p⟩ := (show ObjOk X.prog X.w H s.heap a (.tup xs) from I.hok a _ ea)
    obtain ⟨o, h1, h2, _⟩ := p
    exact PySem.W.kia_one PySem.W.kitx_tuple I.kIn ⟨o, h1, h2⟩ e (fun z => nomatch z) h
  | @dK a kvs ea =>
    cases (show u = Value.ref a from rx)
    obtain ⟨_, _, vs, _, p⟩ := (show ObjOk X.prog X.w H s.heap a (.dK kvs) from I.hok a _ ea)
    obtain ⟨o, es, ep, h1, h2, _⟩ := p
    exact PySem.W.kia_one PySem.W.kitx_dict I.kIn ⟨o, h1, h2.1⟩ e (fun z => nomatch z) h
  | @dT a kvs ea =>
    cases (show u = Value.ref a from rx)
    obtain ⟨_, _, xs, _, o, es, ep, h1, h2, _⟩ := (show ObjOk X.prog X.w H s.heap a (.dT kvs) from I.hok a _ ea)
    exact PySem.W.kia_one PySem.W.kitx_dict I.kIn ⟨o, h1, h2.1⟩ e (fun z => nomatch z) h
  | @ins a C dx fs ea cl ha hn htk hm =>
    cases (show u = Value.ref a from rx)
    obtain ⟨mA, O, _⟩ := ins_get I.hok ea
    obtain ⟨od, J, _⟩ := O.look
    exact PySem.W.kia_one (PySem.W.kitx_own (cl.get _) cl.hd ha hn htk hm) I.kIn J e (fun z => nomatch z) h
end
end L2
namespace L2
open PySem PySem.Spec PyProof.Rows
structure Room (k : Nat) (A : Around) : Prop where
  hd : A.handled = none
  dp : A.depth + 3 * k + 5 < recursionLimit
  un : A.units + 16 * k + 200 < cLine
  gd : A.guards = some []
theorem Room.mono {j k : Nat} {A : Around} (r : Room k A) (h : j ≤ k) : Room j A := ⟨r.hd, by have := r.dp; omega, by have := r.un; omega, r.gd⟩
theorem Room.deeper {k : Nat} {A : Around} (r : Room (k + 1) A) (env : Env) : Room k (A.deeper env) :=
  ⟨r.hd, by have := r.dp; show A.depth + 1 + 3 * k + 5 < _; omega, by have := r.un; show A.units + 3 + 16 * k + 200 < _; omega, r.gd⟩
theorem Room.in1 {k : Nat} {A : Around} (r : Room (k + 1) A) : Room k A.in1 :=
  ⟨r.hd, by have := r.dp; show A.depth + 3 * k + 5 < _; omega, by have := r.un; show A.units + 1 + 16 * k + 200 < _; omega, r.gd⟩
theorem Room.depth {k : Nat} {A : Around} (r : Room k A) : A.depth < recursionLimit := by have := r.dp; omega
theorem Room.units {k : Nat} {A : Around} (r : Room k A) : A.units + 64 < cLine := by have := r.un; omega
theorem Room.units0 {k : Nat} {A : Around} (r : Room k A) : A.units < cLine := by have := r.un; omega
def tNil : TA := fun _ H Q => Q [] H
def tCons (ta : TE) (tr : TA) : TA := fun σ H Q => ta σ H fun x H1 => tr σ H1 fun xs H2 => Q (x :: xs) H2
section
variable {X : Cx} {e : Expr} {es : List Expr} {te : TE} {t : TA} {pos : Pos}
theorem pa_nil : PA X [] tNil := fun _ _ _ _ H Q I h => Calls.spliced_nil ⟨[], H, I, .nil, h⟩
theorem pa_cons (ha : PE X e te) (hr : PA X es t) (hs : starEach (e :: es) X.env = (false, eval e X.env) :: starEach es X.env := by rfl) : PA X (e :: es) (tCons te t) := by
  intro pos pins s σ H Q I h
  rw [hs]
  show wpAny _ _ (spliced ((false, eval e X.env) :: backTo pos (starEach es X.env))) _ _ s
  refine Calls.spliced_cons (thn (ha pins s σ H _ I h) fun u s1 ⟨x, H1, I1, r1, q1⟩ => ?_)
  exact thn (hr pos pins s1 σ H1 _ I1 q1) fun us s2 ⟨xs, H2, I2, r2, q2⟩ => ⟨x :: xs, H2, I2, .cons r1 r2, q2⟩
def tTup (t : TA) : TE := fun σ H Q => t σ H fun xs H1 => xs.length ≤ sizeLine ∧ ∀ p, H1 p = none → Q (.ref p) (upd H1 p (.tup xs))
def tLst (t : TA) : TE := fun σ H Q => t σ H fun xs H1 => xs.length ≤ sizeLine ∧ ∀ p, H1 p = none → Q (.ref p) (upd H1 p (.lst xs))
theorem pe_tup {x1} (h : PA X es t) : PE X (.Tuple es x1 pos) (tTup t) := by
  intro pins s σ H Q I hq
  refine wpAny_Tuple_spliced (thn (h pos pins s σ H _ I hq) fun us s1 ⟨xs, H1, I1, r, z, q⟩ => ⟨by rw [← r.length]; exact z, ?_⟩)
  have hf : H1 s1.heap.objs.size = none := I1.hok.fresh (Nat.le_refl _)
  refine ⟨.ref s1.heap.objs.size, upd H1 s1.heap.objs.size (.tup xs), I1.laid (t' := s1.toks) (fun b u e => Heap.get?_push_of_some _ e) (Nat.le_refl _) ?_, rfl, q _ hf⟩
  exact ⟨z, us, r, ⟨_, Heap.get?_push_size _ rfl, rfl, ⟨_, rfl⟩, rfl⟩⟩
theorem pe_lst (h : PA X es t) : PE X (.List es pos) (tLst t) := by
  intro pins s σ H Q I hq
  refine wpAny_List_spliced (thn (h pos pins s σ H _ I hq) fun us s1 ⟨xs, H1, I1, r, z, q⟩ => ⟨by rw [← r.length]; exact z, ?_⟩)
  have hf : H1 s1.heap.objs.size = none := I1.hok.fresh (Nat.le_refl _)
  refine ⟨.ref s1.heap.objs.size, upd H1 s1.heap.objs.size (.lst xs), I1.laid (t' := s1.toks) (fun b u e => Heap.get?_push_of_some _ e) (Nat.le_refl _) ?_, rfl, q _ hf⟩
  exact ⟨z, us, 0, r, Heap.get?_push_size _ rfl⟩
end
abbrev Sp := List V → Hp → VK → XK → Prop
abbrev CXT := List Env → Hp → Shared → XK → Value → Shared → Prop
structure Env0 (P : Program) (w : World) (K : PySem.W.Frag) (mg : Str → Option Value) (base : Heap) (A : Around) (outer : List Env) (s : Shared) (H : Hp) : Prop where
  frames : A.frames = some outer
  mod : Mod K mg base
  bs : ∀ b o, base.get? b = some o → s.heap.get? b = some o ∧ H b = none
  bsz : base.objs.size ≤ s.heap.objs.size
  funs : s.heap.FunFrames base outer
  frf : ∀ b ∈ frs outer, H b = none
  hok : HOk P w H s.heap
  bare : AllBare s.gens
def CE (outer : List Env) (P : Program) (w : World) (H : Hp) (s : Shared) (Q : VK) (u : Value) (s' : Shared) : Prop :=
  ∃ v H', s'.os = s.os ∧ AllBare s'.gens ∧ Un (frs outer) [] H H' s.heap s'.heap ∧ HOk P w H' s'.heap ∧ RelV v u ∧ Q v H'
def CR (CX : CXT) (outer : List Env) (P : Program) (w : World) (H : Hp) (s : Shared) (Q : VK) (E : XK) (r : Result) (s' : Shared) : Prop :=
  match r with
  | .ok (.ret u) => CE outer P w H s Q u s'
  | .ok _ => False
  | .error e => CX outer H s E e s'
structure FnOk (P : Program) (w : World) (K : PySem.W.Frag) (mg : Str → Option Value) (base : Heap) (CX : CXT) (k : Nat) (f : Addr) (fd : FuncData) (ps : List Str) (sp : Sp) : Prop where
  len : ∀ vs H Q E, sp vs H Q E → vs.length = ps.length
  run : ∀ (A : Around) (outer : List Env) (s : Shared) (H : Hp) (args : Args) (us : List Value) (vs : List V) (Q : VK) (E : XK), Room k A → Env0 P w K mg base A outer s H → BindsTo s fd args (ps.zip us) → Vals vs us → sp vs H Q E →
    codeAny (model P w) A (.call (.ref f) args) (CR CX outer P w H s Q E) s
section
variable {X : Cx} {pins : List (Addr × Obj)} {σ : St} {H : Hp} {s s' : Shared}
theorem Inv.env0 (I : Inv X pins σ H s) : Env0 X.prog X.w X.K X.mg X.base X.A X.stack s H :=
  ⟨I.ok.frames, I.ok.mod, I.bs, Nat.le_trans I.ok.bsz I.sz, I.stack, I.stkFree, I.hok, I.bare⟩
theorem Inv.after {Q : VK} {u : Value} (I : Inv X pins σ H s) (h : CE X.stack X.prog X.w H s Q u s') : EP X pins σ Q u s' := by
  obtain ⟨v, H', os, bare, un, hok, r, q⟩ := h
  obtain ⟨hh, g, d, t, os'⟩ := s'
  obtain rfl : os' = s.os := os
  exact ⟨v, H', I.call (h' := hh) (g' := g) (d' := d) (t' := t) (ch := []) un hok bare (fun b z => absurd z (by simp)), r, q⟩
end
def tCall (sp : Sp) (dvs : List V) (E : XK) (t : TA) : TE := fun σ H Q => t σ H fun vs H1 => sp (vs ++ dvs) H1 Q E
def Binds (K : PySem.W.Frag) (fd : FuncData) (ps : List Str) (ds : List Value) : Prop :=
  ∀ (s : Shared) (us : List Value), K.In s.heap → (us ++ ds).length = ps.length → BindsTo s fd ⟨us, []⟩ (ps.zip (us ++ ds))
theorem Binds.all {K : PySem.W.Frag} {fd : FuncData} {ps : List Str} (h : ∀ us : List Value, us.length = ps.length → bindArgs fd ⟨us, []⟩ = pure (ps.zip us)) : Binds K fd ps [] := fun s us _ hl => by
  rw [List.append_nil] at hl ⊢
  exact .of_eq (h us hl)
def Passes (CX : CXT) (X : Cx) (E : XK) : Prop := ∀ (pins : List (Addr × Obj)) (σ : St) (H : Hp) (s : Shared) (e : Value) (s' : Shared), Inv X pins σ H s → CX X.stack H s E e s' → X.xe e s'
section
variable {X : Cx} {CX : CXT} {k : Nat} {f C : Addr} {fd : FuncData} {ps : List Str} {sp : Sp} {dvs : List V} {ds : List Value} {E : XK} {x m : Str} {p pos apos : Pos} {e o : Expr} {es : List Expr} {ta : TE} {t : TA}
theorem run_fn {pins : List (Addr × Obj)} {σ : St} {H : Hp} {s : Shared} {Q : VK} {us : List Value} {vs : List V} (F : FnOk X.prog X.w X.K X.mg X.base CX k f fd ps sp) (hr : Room k X.A) (hb : Binds X.K fd ps ds) (hd : Vals dvs ds) (hx : Passes CX X E)
    (I : Inv X pins σ H s) (r : Vals vs us) (h : sp (vs ++ dvs) H Q E) : wpAny (model X.prog X.w) X.A (call (.ref f) us) (EP X pins σ Q) X.xe s := by
  have r2 : Vals (vs ++ dvs) (us ++ ds) := r.append hd
  have hl : (us ++ ds).length = ps.length := by rw [← r2.length]; exact F.len _ _ _ _ h
  refine wpAny_call (codeAny_mono (F.run X.A X.stack s H ⟨us, []⟩ (us ++ ds) (vs ++ dvs) Q E hr I.env0 (hb s us I.kIn hl) r2 h) fun r s' hq => ?_)
  cases r with
  | error e => exact hx pins σ H s e s' I hq
  | ok fl =>
    cases fl with
    | ret u => exact I.after hq
    | next => exact False.elim hq
    | brk => exact False.elim hq
    | cont => exact False.elim hq
theorem pe_call (F : FnOk X.prog X.w X.K X.mg X.base CX k f fd ps sp) (hr : Room k X.A) (hg : Gl X x) (hm : X.mg x = some (.ref f)) (hk : PySem.W.keepIn X.K (.ref f) = true) (hb : Binds X.K fd ps ds) (hd : Vals dvs ds) (hx : Passes CX X E)
    (ha : PA X (e :: es) t) (hdb : (x == ("__debug__" : Str)) = false := by decide) (he : starEach (e :: es) X.env = (false, eval e X.env) :: starEach es X.env := by rfl) (hpl : (backTo pos (starEach es X.env)).any (·.1) = false := by rfl) :
    PE X (.Call (.Name x p) (e :: es) [] pos) (tCall sp dvs E t) := by
  intro pins s σ H Q I h
  refine wpAny_Call_Name_kw (ld_glob I hg hm ?_ hdb)
  refine PySem.W.callWith_K (h₀ := X.base) I.ok.mod.kin hk (thn (ha pos pins s σ H _ I h) fun us s1 ⟨vs, H1, I1, r, q⟩ => ⟨I1.kIn, ?_⟩) he hpl
  exact run_fn F hr hb hd hx I1 r q
structure Mk (K : PySem.W.Frag) (C f : Addr) : Prop where
  makes : PySem.W.makesIn K C = true
  init : PySem.W.findIn K (.ref C) "__init__" = some (some (.ref f))
  fn : PySem.W.isFn K (.ref f) = true
  kp : PySem.W.keepIn K (.ref C) = true
end
section
variable {X : Cx} {CX : CXT} {k : Nat} {f C : Addr} {fd : FuncData} {ps ks : List Str} {sp : Sp} {E : XK} {x m : Str} {p pos apos kpos : Pos} {e o : Expr} {es : List Expr} {kws : List Keyword} {te ta : TE} {t tk : TA} {nm : Option Str}
structure KBinds (K : PySem.W.Frag) (fd : FuncData) (ps ks : List Str) (g : List Value → List Value → List Value) (gV : List V → List V → List V) : Prop where
  to : ∀ (s : Shared) (us ws : List Value), K.In s.heap → (g us ws).length = ps.length → BindsTo s fd ⟨us, ks.zip ws⟩ (ps.zip (g us ws))
  rel : ∀ {vs : List V} {us : List Value} {zs : List V} {ws : List Value}, Vals vs us → Vals zs ws → Vals (gV vs zs) (g us ws)
variable {g : List Value → List Value → List Value} {gV : List V → List V → List V}
end
structure FnScope (N P : List Str) (sc : Scope) : Prop where
  kind : sc.kind = .function
  co : sc.isCoroutine = false
  gen : sc.isGenerator = false
  nd : N.Nodup
  pre : N.take P.length = P
  par : ∀ x ∈ P, sc.names.lookup x = some .local ∨ sc.names.lookup x = some .cell
  nofree : ∀ y ∈ sc.names, y.2 ≠ .free
theorem bindL_out {kindOf : Str → Option NameKind} {x : Str} : ∀ {binds : List (Str × Value)} {m : Str → Option Value}, (∀ v, (x, v) ∉ binds) → bindL kindOf binds m x = m x
  | [], _, _ => rfl
  | (n, v) :: r, m, h => by
    unfold bindL
    rw [bindL_out fun w hw => h w (List.mem_cons_of_mem _ hw)]
    split
    · have : x ≠ n := by rintro rfl; exact h v List.mem_cons_self
      simp [this]
    · rfl
theorem bindC_out {kindOf : Str → Option NameKind} {x : Str} : ∀ {binds : List (Str × Value)} {m : Str → Option Value}, (∀ v, (x, v) ∉ binds) → bindC kindOf binds m x = m x
  | [], _, _ => rfl
  | (n, v) :: r, m, h => by
    unfold bindC
    rw [bindC_out fun w hw => h w (List.mem_cons_of_mem _ hw)]
    split
    · rfl
    · have : x ≠ n := by rintro rfl; exact h v List.mem_cons_self
      simp [this]
theorem bindL_get {kindOf : Str → Option NameKind} {x : Str} {v : Value} : ∀ {P : List Str} {vs : List Value} {i : Nat} {m : Str → Option Value}, P.Nodup → P[i]? = some x → vs[i]? = some v → kindOf x = some .local →
    bindL kindOf (P.zip vs) m x = some v
  | [], _, _, _, _, h, _, _ => by simp at h
  | _ :: _, [], _, _, _, _, h, _ => by simp at h
  | p :: P, w :: vs, 0, m, nd, h1, h2, hk => by
    simp at h1 h2; subst h1; subst h2
    show bindL kindOf ((p, w) :: P.zip vs) m p = _
    unfold bindL
    rw [bindL_out fun v hv => (List.nodup_cons.mp nd).1 (List.of_mem_zip hv).1, if_pos hk]
    simp
  | p :: P, w :: vs, i + 1, m, nd, h1, h2, hk => by
    show bindL kindOf ((p, w) :: P.zip vs) m x = _
    unfold bindL
    exact bindL_get (i := i) (List.nodup_cons.mp nd).2 (by simpa using h1) (by simpa using h2) hk
theorem bindC_get {kindOf : Str → Option NameKind} {x : Str} {v : Value} : ∀ {P : List Str} {vs : List Value} {i : Nat} {m : Str → Option Value}, P.Nodup → P[i]? = some x → vs[i]? = some v → kindOf x ≠ some .local →
    bindC kindOf (P.zip vs) m x = some v
  | [], _, _, _, _, h, _, _ => by simp at h
  | _ :: _, [], _, _, _, _, h, _ => by simp at h
  | p :: P, w :: vs, 0, m, nd, h1, h2, hk => by
    simp at h1 h2; subst h1; subst h2
    show bindC kindOf ((p, w) :: P.zip vs) m p = _
    unfold bindC
    rw [bindC_out fun v hv => (List.nodup_cons.mp nd).1 (List.of_mem_zip hv).1, if_neg hk]
    simp
  | p :: P, w :: vs, i + 1, m, nd, h1, h2, hk => by
    show bindC kindOf ((p, w) :: P.zip vs) m x = _
    unfold bindC
    exact bindC_get (i := i) (List.nodup_cons.mp nd).2 (by simpa using h1) (by simpa using h2) hk
def start (N : List Str) (vs : List V) : St := vs.map some ++ List.replicate (N.length - vs.length) none
def cxOf (CX : CXT) (P : Program) (w : World) (K : PySem.W.Frag) (mg : Str → Option Value) (base : Heap) (N : List Str) (qual : Str) (scope : Scope) (f : Addr) (cd : Value) (A : Around) (outer : List Env) (s : Shared) (H : Hp) (E : XK) : Cx where
  prog := P
  w := w
  K := K
  mg := mg
  base := base
  A := A.deeper (envOfC qual scope s.heap.objs.size f cd)
  N := N
  s₀ := s
  H₀ := H
  env := envOfC qual scope s.heap.objs.size f cd
  outer := outer
  stack := envOfC qual scope s.heap.objs.size f cd :: outer
  ex := []
  calm := true
  fn := fun _ => true
  pn := []
  xe := fun e s' => wpAny (model P w) (A.deeper (envOfC qual scope s.heap.objs.size f cd)) (leaving (envOfC qual scope s.heap.objs.size f cd) e) (fun _ s'' => CX outer H s E e s'') (fun e' s'' => CX outer H s E e' s'') s'
theorem cell_has {sc : Scope} {n : Nat} {x : Str} (h : sc.names.lookup x = some .cell) : ∃ c, (cellsFrom n sc.names []).lookup x = some c := by
  have q := PySem.W.cellsFrom_some sc.names n [] (.inl h)
  exact Option.isSome_iff_exists.mp q
theorem inv_start {CX : CXT} {P : Program} {w : World} {K : PySem.W.Frag} {mg : Str → Option Value} {base : Heap} {N ps : List Str} {qual : Str} {scope : Scope} {f : Addr} {cd : Value} {A : Around} {outer : List Env} {s s1 : Shared} {H : Hp} {E : XK} {us : List Value} {vs : List V}
    (S : FnScope N ps scope) (hd : A.handled = none) (e0 : Env0 P w K mg base A outer s H) (hl : vs.length = ps.length) (r : Vals vs us)
    (x : InCallC s s.heap.objs.size (bindL (envOfC qual scope s.heap.objs.size f cd).kindOf (ps.zip us) fun _ => none) (cellsFrom (s.heap.objs.size + 1) scope.names []) (bindC (envOfC qual scope s.heap.objs.size f cd).kindOf (ps.zip us) fun _ => none) s1) :
    Inv (cxOf CX P w K mg base N qual scope f cd A outer s H E) [] (start N vs) H s1 := by
  have hpl : ps.length ≤ N.length := by have := congrArg List.length S.pre; rw [List.length_take] at this; omega
  obtain ⟨h1, tk, rfl, hk⟩ := x.done
  have noA : ∀ b : Addr, b ∉ (cxOf CX P w K mg base N qual scope f cd A outer s H E).ex := fun b z => absurd (show b ∈ ([] : List Addr) from z) (by simp)
  refine ⟨⟨e0.mod, S.kind, rfl, rfl, Nat.le_refl _, fun y z c h1 h2 => ?_, fun y hy => ?_, fun y c _ h => ?_, fun _ => hd, Around.frames_deeper e0.frames, .inr ⟨rfl, rfl⟩, fun b z => absurd z (noA b), e0.bs, e0.bsz, fun b _ _ => noA b, fun b z => absurd z (noA b), e0.funs, e0.frf⟩,
    rfl, e0.bare, Un.kept hk, ⟨_, x.toInCall.ns, fun i y v h1 h2 h3 => ?_⟩, fun y c h => ⟨_, x.cell y c h⟩, e0.hok.fresh (Nat.le_refl _), fun y c h => ?_, fun p hp => absurd (show p ∈ ([] : List (Addr × Obj)) from hp) (by simp), e0.hok.kept hk, ?_⟩
  · exact name_of_addr x.apart (PySem.mem_of_lookup h1) (PySem.mem_of_lookup h2)
  · have hy : scope.names.lookup y = some .cell ∨ scope.names.lookup y = some .free := hy
    rcases hy with hy | hy
    · exact cell_has hy
    · exact absurd rfl (S.nofree _ (PySem.mem_of_lookup hy))
  · exact Nat.le_of_lt (x.above y c (PySem.mem_of_lookup h))
  · have hi : i < vs.length := by
      unfold start at h2
      by_cases hi : i < vs.length
      · exact hi
      · rw [List.getElem?_append_right (by simpa using hi)] at h2
        rw [List.getElem?_replicate] at h2
        split at h2 <;> cases h2
    have ha : vs[i]? = some v := by
      unfold start at h2
      rw [List.getElem?_append_left (by simpa using hi), List.getElem?_map] at h2
      cases e : vs[i]? with
      | none => rw [e] at h2; cases h2
      | some a => rw [e] at h2; cases h2; rfl
    obtain ⟨u, hu, rv⟩ := r.get ha
    have hp : ps[i]? = some y := by
      rw [← S.pre, List.getElem?_take_of_lt (by omega)]; exact h1
    have ndP : ps.Nodup := by rw [← S.pre]; exact S.nd.sublist (List.take_sublist _ _)
    refine ⟨u, rv, ?_⟩
    rcases S.par y (List.mem_of_getElem? hp) with k | k
    · exact .inl ⟨k, bindL_get ndP hp hu k⟩
    · obtain ⟨c, e⟩ := cell_has (n := s.heap.objs.size + 1) k
      refine .inr ⟨.inl k, c, e, ?_⟩
      have q := x.cell y c e
      rw [bindC_get ndP hp hu (by show scope.names.lookup y ≠ _; rw [k]; decide)] at q
      exact q
  · exact e0.hok.fresh (Nat.le_of_lt (x.above y c (PySem.mem_of_lookup h)))
  · unfold start
    show _ = N.length
    rw [List.length_append, List.length_map, List.length_replicate]
    omega
theorem fn_of {CX : CXT} {P : Program} {w : World} {K : PySem.W.Frag} {mg : Str → Option Value} {base : Heap} {k : Nat} {f : Addr} {name qual : Str} {params : Arguments} {body : List Stmt} {scope : Scope} {dV kV doc pm cdv ct oc : Value} {an od : Option Addr}
    {osl : Array (Option Value)} {N ps : List Str} {sp : Sp} (lk : K.lookup f = some ⟨oc, od, .func (PySem.W.fnOf name qual params body scope dV kV doc pm an cdv ct), osl⟩) (hcd : PySem.W.codeIn K cdv qual = true) (S : FnScope N ps scope)
    (len : ∀ vs H Q E, sp vs H Q E → vs.length = ps.length)
    (hbody : ∀ (A : Around) (outer : List Env) (s : Shared) (H : Hp) (vs : List V) (Q : VK) (E : XK), Room k (A.deeper (envOfC qual scope s.heap.objs.size f cdv)) → sp vs H Q E →
      ∃ t, PSs (cxOf CX P w K mg base N qual scope f cdv A outer s H E) body t ∧ t { nx := fun _ H' => Q .non H', rt := Q } (start N vs) H) :
    FnOk P w K mg base CX (k + 1) f (PySem.W.fnOf name qual params body scope dV kV doc pm an cdv ct) ps sp := by
  refine ⟨len, fun A outer s H args us vs Q E hr e0 hb r hsp => ?_⟩
  have hl := len _ _ _ _ hsp
  have KX : K.In s.heap := e0.mod.kin.keeps fun b o e => (e0.bs b o e).1
  have lim : s.heap.NoLimit := e0.mod.nolimit.keeps fun b o e => (e0.bs b o e).1
  have hkind : ∀ y ∈ ps.zip us, scope.names.lookup y.1 = some .local ∨ (scope.names.lookup y.1 = some .cell ∧ ((cellsFrom (s.heap.objs.size + 1) scope.names []).lookup y.1).isSome = true) := fun ⟨n, v⟩ hy => by
    rcases S.par n (List.of_mem_zip hy).1 with q | q
    · exact .inl q
    · exact .inr ⟨q, PySem.W.cellsFrom_some _ _ _ (.inl q)⟩
  refine codeAny_call_function hr.depth (KX _ _ lk) rfl S.co S.gen rfl (PySem.W.codeRec_of KX hcd) (hb _ _ _ _ ?_)
  refine wpAny_newFunctionEnv_cells S.kind hkind fun env he s1 x => ?_
  subst he
  refine ⟨lim.keeps x.toInCall.keep, codeAny_func ?_⟩
  obtain ⟨t, ht, hq⟩ := hbody A outer s H vs Q E (hr.deeper _) hsp
  have I : Inv (cxOf CX P w K mg base N qual scope f cdv A outer s H E) [] (start N vs) H s1 := inv_start S hr.hd e0 hl r x
  refine wpAny_mono (ht [] s1 (start N vs) H _ I hq) (fun fl s' hs => ?_) fun e s' hs => hs
  have fin : ∀ {σ' : St} {H' : Hp} {v : V} {u : Value}, Inv (cxOf CX P w K mg base N qual scope f cdv A outer s H E) [] σ' H' s' → RelV v u → Q v H' → CE outer P w H s Q u s' :=
    fun {σ' H' v u} J rv q => ⟨v, H', J.os, J.bare, J.base, J.hok, rv, q⟩
  cases fl with
  | ret u =>
    obtain ⟨v, σ', H', J, rv, q⟩ := hs
    exact fin J rv q
  | next =>
    obtain ⟨σ', H', J, q⟩ := hs
    exact fin (v := V.non) (u := Value.none) J rfl q
  | brk =>
    obtain ⟨_, _, _, q⟩ := hs
    exact False.elim q
  | cont =>
    obtain ⟨_, _, _, q⟩ := hs
    exact False.elim q
end L2
namespace L2
open PySem PySem.Spec PyProof.Rows
section
variable {X : Cx} {x : Str} {p pos : Pos} {e : Expr} {es : List Expr} {t : TA} {id T : String} {r : List V → Hp → VK → Prop}
def tCB (r : List V → Hp → VK → Prop) (t : TA) : TE := fun σ H Q => t σ H fun vs H1 => r vs H1 Q
theorem pe_callB (hc : CallR X (.builtin id) r) (hg : Gl X x) (hm : X.mg x = none) (hv : bootBuiltins x = some (.builtin id)) (ha : PA X (e :: es) t) (hn : x ≠ "__name__" := by decide) (hdb : (x == ("__debug__" : Str)) = false := by decide)
    (he : starEach (e :: es) X.env = (false, eval e X.env) :: starEach es X.env := by rfl) (hpl : (backTo pos (starEach es X.env)).any (·.1) = false := by rfl) : PE X (.Call (.Name x p) (e :: es) [] pos) (tCB r t) := by
  intro pins s σ H Q I h
  refine wpAny_Call_Name_kw (ld_blt I hg hm hv ?_ hn hdb)
  exact PyProof.Rows.callWith_builtin1 (thn (ha pos pins s σ H _ I h) fun us s1 ⟨vs, H1, I1, r1, q1⟩ => hc pins s1 σ H1 vs us Q I1 r1 q1) he hpl
theorem pe_callTy (hc : CallR X (.type T) r) (hg : Gl X x) (hm : X.mg x = none) (hv : bootBuiltins x = some (.type T)) (ha : PA X (e :: es) t) (hn : x ≠ "__name__" := by decide) (hdb : (x == ("__debug__" : Str)) = false := by decide)
    (he : starEach (e :: es) X.env = (false, eval e X.env) :: starEach es X.env := by rfl) (hpl : (backTo pos (starEach es X.env)).any (·.1) = false := by rfl) : PE X (.Call (.Name x p) (e :: es) [] pos) (tCB r t) := by
  intro pins s σ H Q I h
  refine wpAny_Call_Name_kw (ld_blt I hg hm hv ?_ hn hdb)
  exact PyProof.Rows.callWith_type1 (thn (ha pos pins s σ H _ I h) fun us s1 ⟨vs, H1, I1, r1, q1⟩ => hc pins s1 σ H1 vs us Q I1 r1 q1) he hpl
end
end L2
namespace HT
open PySem PyProof.Rows
section
open PySem.SeqAt
open PySem.AutoSeq1 (wpAny_loadPart')
open PySem.MeetsSeq PySem.MeetsSeq2 PySem.MeetsSeq3
end
section
variable {prog : Program} {w : World} {A : Around} {E : Value → Shared → Prop} {s : Shared}
theorem cat_tup {t b : Addr} {vs ws : List Value} {Q : Value → Shared → Prop} (ht : IsTup s.heap t vs.toArray) (hb : IsTup s.heap b ws.toArray) (hv : vs ≠ [])
    (h1 : ws = [] → Q (.ref t) s) (h2 : ws ≠ [] → Q (.ref s.heap.objs.size) { s with heap := s.heap.push { cls := .type "tuple", data := .seq (vs ++ ws).toArray } })
    (hsz : vs.length + ws.length ≤ sizeLine) : wpAny (model prog w) A (binaryOp .Add (.ref t) (.ref b)) Q E s := by
  obtain ⟨⟨cls, dd, data, sl⟩, ho, hc, n, hd⟩ := id ht
  obtain ⟨⟨cls2, dd2, data2, sl2⟩, ho2, hc2, n2, hd2⟩ := id hb
  simp only at hc hd hc2 hd2
  subst hc hd hc2 hd2
  have e : vs.toArray ++ ws.toArray = (vs ++ ws).toArray := by simp
  by_cases hw : ws = []
  · exact concat_meets ⟨_, ho, rfl⟩ ⟨_, ho2, rfl⟩ noFill_tuple_add seq_tuple_add PySem.F.slot_tuple_add PySem.F.entry_tuple_add (PySem.F.args_tuple_add_2 _ _)
      (tuple_addW1 t b vs.toArray ws.toArray n n2 dd dd2 sl sl2 (by simpa using hv) (by simp [hw])) ⟨ho, ho2, h1 hw⟩
  · refine concat_meets ⟨_, ho, rfl⟩ ⟨_, ho2, rfl⟩ noFill_tuple_add seq_tuple_add PySem.F.slot_tuple_add PySem.F.entry_tuple_add (PySem.F.args_tuple_add_2 _ _)
      (tuple_addW2 t b vs.toArray ws.toArray n n2 dd dd2 sl sl2 (by simpa using hv) (by simpa using hw) (by rw [List.size_toArray, List.size_toArray]; exact hsz)) ⟨ho, ho2, ?_⟩
    rw [e]
    exact h2 hw
def sIx (n d : Nat) : Option Int → Nat
  | none => d
  | some v => if v < 0 then (v + (n : Int)).toNat else min v.toNat n
theorem sIx_none (n d : Nat) : sIx n d none = d := rfl
theorem sIx_nat (n d k : Nat) : sIx n d (some (k : Int)) = min k n := by
  show (if (k : Int) < 0 then ((k : Int) + (n : Int)).toNat else min (k : Int).toNat n) = min k n
  rw [if_neg (by omega), Int.toNat_natCast]
theorem sIx_le (n d : Nat) (hd : d ≤ n) (o : Option Int) : sIx n d o ≤ n := by
  cases o with
  | none => exact hd
  | some v =>
    show (if v < 0 then (v + (n : Int)).toNat else min v.toNat n) ≤ n
    by_cases hv : v < 0
    · rw [if_pos hv]; omega
    · rw [if_neg hv]; exact Nat.min_le_right _ _
theorem clip_eq (v : Int) (n d : Nat) : (if v < 0 then max (v + (n : Int)) 0 else min v (n : Int)) = ((sIx n d (some v) : Nat) : Int) := by
  show (if v < 0 then max (v + (n : Int)) 0 else min v (n : Int)) = (((if v < 0 then (v + (n : Int)).toNat else min v.toNat n) : Nat) : Int)
  by_cases hv : v < 0
  · simp only [if_pos hv]; omega
  · simp only [if_neg hv]; omega
theorem adjust_gen (lo hi : Option Int) (n : Nat) : Builtin.Slice.sliceAdjust lo hi 1 (n : Int) = (((sIx n 0 lo : Nat) : Int), ((sIx n n hi : Nat) : Int)) := by
  have h1 : ¬ ((1 : Int) < 0) := by omega
  unfold Builtin.Slice.sliceAdjust
  simp only [h1, if_false]
  refine Prod.ext ?_ ?_
  · cases lo with
    | none => rfl
    | some v => exact clip_eq v n 0
  · cases hi with
    | none => rfl
    | some v => exact clip_eq v n n
theorem places_gen (i j : Nat) : Builtin.Slice.slicePlaces (i : Int) (j : Int) 1 = j - i := by
  unfold Builtin.Slice.slicePlaces
  have h1 : (1 : Int) > 0 := by omega
  simp only [h1, if_true, Int.ediv_one]
  split <;> omega
theorem slicePart_ {v : Value} {o : Option Int} {Q : Option Int → Shared → Prop} (p : IsPart v o) (h : Q o s) : wpAny (model prog w) A (Builtin.Slice.slicePartIndex v) Q E s := by
  cases p with
  | none => exact slicePart_none h
  | int i t => exact slicePart_int h
theorem sliceApplied_gen {sl : Addr} {vl vu : Value} {lo hi : Option Int} {n : Nat} {Q : Int × Int × Nat → Shared → Prop} (hs : s.heap.IsSliceOf sl vl vu .none) (pl : IsPart vl lo) (pu : IsPart vu hi)
    (h : Q (((sIx n 0 lo : Nat) : Int), 1, sIx n n hi - sIx n 0 lo) s) : wpAny (model prog w) A (Builtin.Slice.sliceApplied (.ref sl) (pure (n : Int))) Q E s := by
  obtain ⟨os, hos, hcs, hds⟩ := id hs
  unfold Builtin.Slice.sliceApplied Builtin.Slice.sliceFields
  refine wpAny_bind (wpAny_bind (wpAny_field hos hds (x := vl) rfl (wpAny_bind (wpAny_field hos hds (x := vu) rfl (wpAny_bind (wpAny_field hos hds (x := .none) rfl (wpAny_pure ?_)))))))
  refine wpAny_bind (slicePart_none ?_)
  show wpAny _ _ (if ((1 : Int) == 0) = true then _ else _) _ _ s
  rw [if_neg (by decide)]
  refine wpAny_bind (slicePart_ pl (wpAny_bind (slicePart_ pu (wpAny_bind (wpAny_pure ?_)))))
  show wpAny _ _ (match Builtin.Slice.sliceAdjust lo hi 1 (n : Int) with | (lo, hi) => pure (lo, (1 : Int), Builtin.Slice.slicePlaces lo hi 1)) _ _ s
  rw [adjust_gen lo hi n]
  show wpAny _ _ (pure (((sIx n 0 lo : Nat) : Int), (1 : Int), Builtin.Slice.slicePlaces ((sIx n 0 lo : Nat) : Int) ((sIx n n hi : Nat) : Int) 1)) _ _ s
  rw [places_gen]
  exact wpAny_pure h
theorem pick_gen (xs : Array Value) (i k : Nat) : ((List.range k).filterMap fun (m : Nat) => xs[((i : Int) + (m : Int) * 1).toNat]?).toArray = ((xs.toList.drop i).take k).toArray := by
  have e : (fun (m : Nat) => xs[((i : Int) + (m : Int) * 1).toNat]?) = fun m => xs[i + m]? := by
    funext m
    have : ((i : Int) + (m : Int) * 1).toNat = i + m := by omega
    rw [this]
  rw [e]
  have := pick_run xs i k
  rw [List.filterMap_map] at this
  have e2 : ((fun x => xs[x]?) ∘ fun x => i + x) = fun m => xs[i + m]? := rfl
  rw [e2] at this
  rw [this]
theorem getItem_tuple_cut {t sl : Addr} {items : Array Value} {vl vu : Value} {lo hi : Option Int} {Q : Value → Shared → Prop} (ht : IsTup s.heap t items) (hs : s.heap.IsSliceOf sl vl vu .none) (pl : IsPart vl lo) (pu : IsPart vu hi)
    (hw : ¬ (sIx items.size 0 lo = 0 ∧ sIx items.size items.size hi = items.size))
    (h : Q (.ref s.heap.objs.size) { s with heap := s.heap.push { cls := .type "tuple", data := .seq ((items.toList.drop (sIx items.size 0 lo)).take (sIx items.size items.size hi - sIx items.size 0 lo)).toArray } })
    (hsz : items.size ≤ sizeLine) : wpAny (model prog w) A (getItem (.ref t) (.ref sl)) Q E s := by
  have htake : sizeOk (.seq ((items.toList.drop (sIx items.size 0 lo)).take (sIx items.size items.size hi - sIx items.size 0 lo)).toArray) := by
    show ((items.toList.drop (sIx items.size 0 lo)).take (sIx items.size items.size hi - sIx items.size 0 lo)).toArray.size ≤ sizeLine
    rw [List.size_toArray, List.length_take, List.length_drop, Array.length_toList]
    omega
  have hj : sIx items.size items.size hi ≤ items.size := sIx_le _ _ (Nat.le_refl _) hi
  obtain ⟨os, hos, hcs, hds⟩ := id hs
  have hTs : s.TypeIs (.ref sl) "slice" := ⟨os, hos, hcs⟩
  unfold getItem
  try with_reducible refine wpAny_holding ?_
  first | refine wpAny_bind (wpAny_pure ?_) | skip
  refine wpAny_bind (wpAny_sequenceKey ht.typeIs (by decide) ?_)
  refine wpAny_bind (wpAny_callSpecial?_slot (name := Str.ofString "__getitem__") ht.typeIs PyProof.Rows.slot_tuple_getitem
    (wpAny_call_entry PyProof.Rows.slot_tuple_getitem ht.typeIs entry_tuple_getitem ?_ (args_tuple_getitem _ _)))
  show wpAny _ _ (Builtin.Tuple.tupleItemsOf (.ref t) >>= _) _ _ s
  refine wpAny_bind (tupleItemsOf_ ht ?_)
  refine wpAny_bind (wpAny_typeOf hTs ?_)
  rw [if_pos (by decide)]
  refine wpAny_bind (sliceApplied_gen hs pl pu ?_)
  have hno : ¬ ((((sIx items.size 0 lo : Nat) : Int) == 0 && (1 : Int) == 1 && (sIx items.size items.size hi - sIx items.size 0 lo) == items.size) = true) := by
    intro q
    rw [Bool.and_eq_true, Bool.and_eq_true] at q
    have q1 : ((sIx items.size 0 lo : Nat) : Int) = 0 := eq_of_beq q.1.1
    have q2 : sIx items.size items.size hi - sIx items.size 0 lo = items.size := eq_of_beq q.2
    exact hw ⟨by omega, by omega⟩
  show wpAny _ _ (if (((sIx items.size 0 lo : Nat) : Int) == 0 && (1 : Int) == 1 && (sIx items.size items.size hi - sIx items.size 0 lo) == items.size) = true then _ else _) _ _ s
  rw [if_neg hno, pick_gen]
  first
    | exact wpAny_bind (m := Builtin.Tuple.tupleExact _) (wpAny_newObj_type (wpAny_pure ⟨_, rfl, wpAny_pure h⟩) htake)
    | exact wpAny_bind (m := Builtin.Tuple.tupleExact _) (wpAny_newObj_type (wpAny_bind (wpAny_pure (wpAny_pure ⟨_, rfl, wpAny_pure h⟩))) htake)
    | exact wpAny_bind (wpAny_bind (m := Builtin.Tuple.tupleExact _) (wpAny_newObj_type (wpAny_pure (wpAny_pure ⟨_, rfl, wpAny_pure h⟩)) htake))
    | exact wpAny_bind (wpAny_bind (m := Builtin.Tuple.tupleExact _) (wpAny_newObj_type (wpAny_pure ⟨_, rfl, wpAny_pure h⟩) htake))
end
end HT
namespace L2
open PySem PySem.Spec PyProof.Rows
abbrev TO := St → Hp → (Option Int → Hp → Prop) → Prop
def PO (X : Cx) (e : Option Expr) (t : TO) : Prop :=
  ∀ (pins : List (Addr × Obj)) (s : Shared) (σ : St) (H : Hp) (Q : Option Int → Hp → Prop), Inv X pins σ H s → t σ H Q →
    wpAny (model X.prog X.w) X.A (evalPart e X.env) (fun u s' => ∃ o H', Inv X pins σ H' s' ∧ IsPart u o ∧ Q o H') X.xe s
def tNoPart : TO := fun _ H Q => Q none H
def tPart (t : TE) : TO := fun σ H Q => t σ H fun x H1 => ∃ i, x = .int i ∧ Q (some i) H1
theorem intsAre_of {ns : List Int} : ∀ {us : List Value}, Vals (ns.map V.int) us → IntsAre us ns := by
  induction ns with
  | nil => intro us r; rw [List.map_nil] at r; cases r; exact .nil
  | cons n ns ih =>
    intro us r
    rw [List.map_cons] at r
    cases r with
    | cons r1 r2 =>
      obtain ⟨t, e⟩ := r1
      subst e
      exact .cons n t (ih r2)
section
variable {X : Cx} {e : Expr} {te : TE} {lo hi : Option Expr} {tl th : TO} {pos p2 : Pos}
theorem po_none : PO X none tNoPart := by
  intro pins s σ H Q I h
  rw [evalPart_none]
  exact wpAny_pure ⟨none, H, I, .none, h⟩
theorem po_some (h : PE X e te) : PO X (some e) (tPart te) := by
  intro pins s σ H Q I hw
  rw [evalPart_some]
  refine thn (h pins s σ H _ I hw) fun u s1 ⟨x, H1, I1, r1, q1⟩ => ?_
  obtain ⟨i, rfl, q⟩ := q1
  obtain ⟨t, rfl⟩ := r1
  exact ⟨some i, H1, I1, .int i t, q⟩
def SlR (X : Cx) (r : V → Option Int → Option Int → Hp → VK → Prop) : Prop :=
  ∀ (pins : List (Addr × Obj)) (s : Shared) (σ : St) (H : Hp) (x : V) (v vl vu : Value) (lo hi : Option Int) (sl : Addr) (Q : VK), Inv X pins σ H s → RelV x v → s.heap.IsSliceOf sl vl vu .none → IsPart vl lo → IsPart vu hi → r x lo hi H Q →
    ∃ T id, typeLookup (.type T) "__getitem__" = pure (some (.builtin id)) ∧ s.TypeIs v T ∧ wpAny (model X.prog X.w) X.A (getItem v (.ref sl)) (EP X pins σ Q) X.xe s
def tSl (r : V → Option Int → Option Int → Hp → VK → Prop) (te : TE) (tl th : TO) : TE := fun σ H Q => te σ H fun x H1 => tl σ H1 fun l H2 => th σ H2 fun u H3 => r x l u H3 Q
theorem pe_slice {r : V → Option Int → Option Int → Hp → VK → Prop} (hr : SlR X r) (he : PE X e te) (hl : PO X lo tl) (hu : PO X hi th) : PE X (.Subscript e (.Slice lo hi none p2) pos) (tSl r te tl th) := by
  intro pins s σ H Q I h
  refine Subscript_ (thn (he pins s σ H _ I h) fun v s1 ⟨x, H1, I1, r1, q1⟩ => ?_)
  refine wpAny_Slice (thn (hl pins s1 σ H1 _ I1 q1) fun vl s2 ⟨l, H2, I2, pl, q2⟩ => thn (hu pins s2 σ H2 _ I2 q2) fun vu s3 ⟨u, H3, I3, pu, q3⟩ => ?_)
  rw [evalPart_none]
  refine wpAny_pure ?_
  have I4 : Inv X pins σ H3 { s3 with heap := s3.heap.push { cls := .type "slice", data := .fields #[vl, vu, .none] } } := I3.kept (t' := s3.toks) fun b ob q => Heap.get?_push_of_some _ q
  obtain ⟨T, id, hT, ht, hg⟩ := hr pins { s3 with heap := s3.heap.push { cls := .type "slice", data := .fields #[vl, vu, .none] } } σ H3 x v vl vu l u s3.heap.objs.size Q I4 r1 (Heap.IsSliceOf.new ..) pl pu q3
  show wpAny (model X.prog X.w) X.A (subscriptTail e (.Slice lo hi none p2) v (.ref s3.heap.objs.size)) (EP X pins σ Q) X.xe { s3 with heap := s3.heap.push { cls := .type "slice", data := .fields #[vl, vu, .none] } }
  exact tail_any (ops := [.ref s3.heap.objs.size, v]) ht hT hg (by with_unfolding_all rfl)
def cutV (xs : List V) (lo hi : Option Int) : List V := (xs.drop (HT.sIx xs.length 0 lo)).take (HT.sIx xs.length xs.length hi - HT.sIx xs.length 0 lo)
theorem cutV_length (xs : List V) (lo hi : Option Int) : (cutV xs lo hi).length ≤ xs.length := by
  unfold cutV
  rw [List.length_take, List.length_drop]
  omega
def rSlT (K : PySem.W.Frag) : V → Option Int → Option Int → Hp → VK → Prop := fun x lo hi H Q => ∃ a xs, x = .ref a ∧ SqT K H a xs ∧
  ¬ (HT.sIx xs.length 0 lo = 0 ∧ HT.sIx xs.length xs.length hi = xs.length) ∧ ∀ p, H p = none → Q (.ref p) (upd H p (.tup (cutV xs lo hi)))
theorem sl_tup : SlR X (rSlT X.K) := by
  intro pins s σ H x v vl vu lo hi sl Q I rx hs pl pu h
  obtain ⟨a, xs, rfl, hx, hw, q⟩ := h
  cases rx
  obtain ⟨its, r, ht, hz⟩ := I.tuple hx
  have hlen : its.toArray.size = xs.length := by rw [List.size_toArray]; exact r.length.symm
  refine ⟨"tuple", _, PyProof.Rows.slot_tuple_getitem.lookup, ht.typeIs, ?_⟩
  refine HT.getItem_tuple_cut ht hs pl pu (by rw [hlen]; exact hw) ?_ (by rw [hlen]; exact hz)
  rw [hlen]
  refine ⟨.ref s.heap.objs.size, _, I.laid (t' := s.toks) (o := .tup (cutV xs lo hi)) (fun b ob q => Heap.get?_push_of_some _ q) (Nat.le_refl _) ?_, rfl, q _ (I.hok.fresh (Nat.le_refl _))⟩
  exact ⟨Nat.le_trans (cutV_length xs lo hi) hz, _, (r.drop (HT.sIx xs.length 0 lo)).take (HT.sIx xs.length xs.length hi - HT.sIx xs.length 0 lo), IsTupN.new _ _⟩
theorem Vals.nil_iff {xs : List V} {us : List Value} (r : Vals xs us) : us = [] ↔ xs = [] := by
  cases r with
  | nil => simp
  | cons _ _ => simp
end
end L2
namespace L2
open PySem PySem.Spec PyProof.Rows
def ixN (n : Nat) (i : Int) : Option Nat := if 0 ≤ i then (if i < n then some i.toNat else none) else if -(n : Int) ≤ i then some (i + n).toNat else none
def atI {α : Type} (xs : List α) (i : Int) : Option α := (ixN xs.length i).bind fun j => xs[j]?
theorem ixN_seq {n : Nat} {i : Int} {j : Nat} (h : ixN n i = some j) : seqIndex? i n = some j ∧ j < n ∧ -(n : Int) ≤ i ∧ i < n := by
  unfold ixN at h
  by_cases h0 : 0 ≤ i
  · rw [if_pos h0] at h
    by_cases h1 : i < n
    · rw [if_pos h1] at h
      have e : i.toNat = j := Option.some.inj h
      exact ⟨by rw [seqIndex_of h0 h1, e], by omega, by omega, h1⟩
    · rw [if_neg h1] at h; cases h
  · rw [if_neg h0] at h
    by_cases h1 : -(n : Int) ≤ i
    · rw [if_pos h1] at h
      have e : (i + n).toNat = j := Option.some.inj h
      exact ⟨by rw [seqIndex_neg (by omega) h1, e], by omega, h1, by omega⟩
    · rw [if_neg h1] at h; cases h
theorem atI_get {α : Type} {xs : List α} {i : Int} {v : α} (h : atI xs i = some v) : ∃ j, seqIndex? i xs.length = some j ∧ xs[j]? = some v ∧ j < xs.length ∧ -(xs.length : Int) ≤ i ∧ i < xs.length := by
  unfold atI at h
  cases e : ixN xs.length i with
  | none => rw [e] at h; cases h
  | some j =>
    rw [e] at h
    obtain ⟨h1, h2, h3, h4⟩ := ixN_seq e
    exact ⟨j, h1, h, h2, h3, h4⟩
theorem atI_nat {α : Type} {xs : List α} {j : Nat} {v : α} (h : xs[j]? = some v) : atI xs (j : Int) = some v := by
  have hj : j < xs.length := (List.getElem?_eq_some_iff.mp h).1
  have e : ixN xs.length (j : Int) = some j := by
    unfold ixN
    rw [if_pos (by omega), if_pos (by omega)]; simp
  unfold atI; rw [e]; exact h
def PlainIx (b : Expr) : Prop := ∀ o i, subscripted b false o i = operate [o, i] (getItem o i)
def IxR (X : Cx) (r : R2) : Prop :=
  ∀ (value slice : Expr) (pins : List (Addr × Obj)) (s : Shared) (σ : St) (H : Hp) (x y : V) (v u : Value) (Q : VK), Inv X pins σ H s → RelV x v → RelV y u → r x y H Q →
    subscripted slice false v u = operate [v, u] (getItem v u) → wpAny (model X.prog X.w) X.A (subscriptTail value slice v u) (EP X pins σ Q) X.xe s
def MtR (X : Cx) (id : String) (r : V → List V → Hp → VK → Prop) : Prop :=
  ∀ (pins : List (Addr × Obj)) (s : Shared) (σ : St) (H : Hp) (x : V) (xs : List V) (v : Value) (us : List Value) (Q : VK), Inv X pins σ H s → RelV x v → Vals xs us → r x xs H Q →
    wpAny (model X.prog X.w) X.A (call (.builtin id) (v :: us)) (EP X pins σ Q) X.xe s
section
variable {X : Cx} {a b : Expr} {ta tb : TE} {pos : Pos}
theorem pe_ix {r : R2} (hr : IxR X r) (ha : PE X a ta) (hb : PE X b tb) (hs : PlainIx b) : PE X (.Subscript a b pos) (tOp r ta tb) := by
  intro pins s σ H Q I h
  exact Subscript_ (binT ha hb I h fun v u s2 x y H2 I2 rx ry q => hr a b pins s2 σ H2 x y v u Q I2 rx ry q (hs _ _))
def rIxL (K : PySem.W.Frag) : R2 := fun x y H Q => ∃ p xs i v, x = .ref p ∧ y = .int i ∧ SqL K H p xs ∧ atI xs i = some v ∧ Q v H
def rIxT (K : PySem.W.Frag) : R2 := fun x y H Q => ∃ p xs i v, x = .ref p ∧ y = .int i ∧ SqT K H p xs ∧ atI xs i = some v ∧ Q v H
theorem ix_list : IxR X (rIxL X.K) := by
  intro value slice pins s σ H x y v u Q I rx ry h hs
  obtain ⟨p, xs, i, z, rfl, rfl, hq, he, q⟩ := h
  cases rx
  obtain ⟨t, rfl⟩ := ry
  obtain ⟨its, r, pl, hz⟩ := I.list hq
  obtain ⟨j, h1, h2, h3, h4, h5⟩ := atI_get he
  obtain ⟨w, ew, rw'⟩ := r.get h2
  have hl := r.length
  have hn := line63
  have fin : EP X pins σ Q w s := ⟨z, H, I, rw', q⟩
  by_cases h0 : 0 ≤ i
  · have hj : i.toNat = j := by
      rw [seqIndex_of h0 h5] at h1
      exact Option.some.inj h1
    exact item_listR pl.isList h0 (by omega) (by rw [hj]; simpa using ew) fin hs
  · have hj : (i + (its.toArray.size : Int)).toNat = j := by
      rw [seqIndex_neg (by omega) h4] at h1
      rw [List.size_toArray, ← hl]
      exact Option.some.inj h1
    exact subscriptTail_builtinR (x := w) pl.isList.typeIs slot_list_getitem.lookup
      (wpAny_getItem_list_neg (Q := fun r s' => r = w ∧ EP X pins σ Q r s') pl.isList (by omega) (by rw [List.size_toArray] <;> omega) (by omega) (by rw [hj]; simpa using ew) ⟨rfl, fin⟩) hs
theorem ix_tup : IxR X (rIxT X.K) := by
  intro value slice pins s σ H x y v u Q I rx ry h hs
  obtain ⟨p, xs, i, z, rfl, rfl, hq, he, q⟩ := h
  cases rx
  obtain ⟨t, rfl⟩ := ry
  obtain ⟨its, r, pl, hz⟩ := I.tuple hq
  obtain ⟨j, h1, h2, h3, h4, h5⟩ := atI_get he
  obtain ⟨w, ew, rw'⟩ := r.get h2
  have hl := r.length
  have hn := line63
  have fin : EP X pins σ Q w s := ⟨z, H, I, rw', q⟩
  exact subscriptTail_builtinR (x := w) pl.typeIs slot_tuple_getitem.lookup
    (getItem_tuple (j := j) (Q := fun r s' => r = w ∧ EP X pins σ Q r s') pl (by omega) (by omega) (by rw [List.size_toArray, ← hl]; exact h1) (by simpa using ew) ⟨rfl, fin⟩) hs
theorem slice_bounds (lo hi : Option Int) (n : Nat) : (sliceBounds lo hi none n).1 = ((HT.sIx n 0 lo : Nat) : Int) ∧ (sliceBounds lo hi none n).2.1 = ((HT.sIx n n hi : Nat) : Int) ∧ (sliceBounds lo hi none n).2.2 = 1 := by
  refine ⟨?_, ?_, rfl⟩
  · cases lo with
    | none => simp [sliceBounds, HT.sIx]
    | some i =>
      simp only [sliceBounds, HT.sIx, Option.getD_none, show (1 : Int) > 0 by decide, if_true]
      by_cases h : i < 0
      · simp only [h, if_true] <;> omega
      · simp only [h, if_false] <;> omega
  · cases hi with
    | none => simp [sliceBounds, HT.sIx]
    | some i =>
      simp only [sliceBounds, HT.sIx, Option.getD_none, show (1 : Int) > 0 by decide, if_true]
      by_cases h : i < 0
      · simp only [h, if_true] <;> omega
      · simp only [h, if_false] <;> omega
theorem slicePick_cut (its : List Value) (lo hi : Option Int) : slicePick its.toArray lo hi none = ((its.drop (HT.sIx its.length 0 lo)).take (HT.sIx its.length its.length hi - HT.sIx its.length 0 lo)).toArray := by
  obtain ⟨h1, h2, h3⟩ := slice_bounds lo hi its.toArray.size
  unfold slicePick
  rw [h1, h2, h3]
  simp only [sliceRange_one, pick_run, List.size_toArray] <;> rfl
def rSlL (K : PySem.W.Frag) : V → Option Int → Option Int → Hp → VK → Prop := fun x lo hi H Q => ∃ a xs, x = .ref a ∧ SqL K H a xs ∧ ∀ p, H p = none → Q (.ref p) (upd H p (.lst (cutV xs lo hi)))
theorem sl_list : SlR X (rSlL X.K) := by
  intro pins s σ H x v vl vu lo hi sl Q I rx hs pl pu h
  obtain ⟨a, xs, rfl, hx, q⟩ := h
  cases rx
  obtain ⟨its, r, ht, hz⟩ := I.list hx
  have hlen := r.length
  refine ⟨"list", _, slot_list_getitem.lookup, ht.isList.typeIs, ?_⟩
  refine wpAny_getItem_list_slice ht.isList hs pl pu .none (by simp) ?_ (by rw [List.size_toArray] <;> omega)
  rw [slicePick_cut, ← hlen]
  refine ⟨.ref s.heap.objs.size, _, I.laid (t' := s.toks) (o := .lst (cutV xs lo hi)) (fun b ob q => Heap.get?_push_of_some _ q) (Nat.le_refl _) ?_, rfl, q _ (I.hok.fresh (Nat.le_refl _))⟩
  exact ⟨Nat.le_trans (cutV_length xs lo hi) hz, _, 0, (r.drop (HT.sIx xs.length 0 lo)).take (HT.sIx xs.length xs.length hi - HT.sIx xs.length 0 lo), Heap.get?_push_size _ rfl⟩
def flatV : V → Bool
  | .non => true
  | .bl _ => true
  | .int _ => true
  | .str _ => true
  | _ => false
def eqV : V → V → Bool
  | .non, .non => true
  | .bl a, .bl b => a == b
  | .bl a, .int b => (if a then 1 else 0) == b
  | .int a, .bl b => a == (if b then 1 else 0)
  | .int a, .int b => a == b
  | .str a, .str b => a == b
  | _, _ => false
theorem eqAt_V {A : Around} {s : Shared} {y x : V} {u v : Value} (ry : RelV y u) (rx : RelV x v) (fy : flatV y = true) (fx : flatV x = true) : SeqAt.EqAt A s u v (eqV y x) := by
  cases y with
  | non =>
    cases ry
    cases x with
    | non => cases rx; exact SeqAt.EqAt.same _
    | bl b => cases rx; exact SeqAt.EqAt.none_bool b
    | int b => obtain ⟨t, rfl⟩ := rx; exact SeqAt.EqAt.none_int b t
    | str b => obtain ⟨t, rfl⟩ := rx; exact SeqAt.EqAt.none_str b t
    | _ => exact absurd (show false = true from fx) Bool.false_ne_true
  | bl a =>
    cases ry
    cases x with
    | non => cases rx; exact SeqAt.EqAt.bool_none a
    | bl b => cases rx; exact SeqAt.EqAt.bool_bool a b
    | int b => obtain ⟨t, rfl⟩ := rx; exact SeqAt.EqAt.bool_int a b t
    | str b => obtain ⟨t, rfl⟩ := rx; exact SeqAt.EqAt.bool_str a b t
    | _ => exact absurd (show false = true from fx) Bool.false_ne_true
  | int a =>
    obtain ⟨t', rfl⟩ := ry
    cases x with
    | non => cases rx; exact SeqAt.EqAt.int_none a t'
    | bl b => cases rx; exact SeqAt.EqAt.int_bool a t' b
    | int b => obtain ⟨t, rfl⟩ := rx; exact SeqAt.EqAt.int_int a t' b t
    | str b => obtain ⟨t, rfl⟩ := rx; exact SeqAt.EqAt.int_str a t' b t
    | _ => exact absurd (show false = true from fx) Bool.false_ne_true
  | str a =>
    obtain ⟨t', rfl⟩ := ry
    cases x with
    | non => cases rx; exact SeqAt.EqAt.str_none a t'
    | bl b => cases rx; exact SeqAt.EqAt.str_bool a t' b
    | int b => obtain ⟨t, rfl⟩ := rx; exact SeqAt.EqAt.str_int a t' b t
    | str b => obtain ⟨t, rfl⟩ := rx; exact SeqAt.EqAt.str_str a t' b t
    | _ => exact absurd (show false = true from fx) Bool.false_ne_true
  | _ => exact absurd (show false = true from fy) Bool.false_ne_true
def eqU (x : V) (u : Value) : Bool := match u with
  | .none => eqV .non x
  | .bool b => eqV (.bl b) x
  | .int i _ => eqV (.int i) x
  | .str z _ => eqV (.str z) x
  | _ => false
theorem eqU_of {x y : V} {u : Value} (r : RelV y u) (f : flatV y = true) : eqU x u = eqV y x := by
  cases y with
  | non => cases r; rfl
  | bl b => cases r; rfl
  | int i => obtain ⟨t, rfl⟩ := r; rfl
  | str z => obtain ⟨t, rfl⟩ := r; rfl
  | _ => exact absurd (show false = true from f) Bool.false_ne_true
theorem any_eqU {x : V} : ∀ {xs : List V} {us : List Value}, Vals xs us → xs.all flatV = true → us.any (eqU x) = xs.any fun y => eqV y x
  | _, _, .nil, _ => rfl
  | y :: xs, u :: us, .cons r t, f => by
    rw [List.all_cons, Bool.and_eq_true] at f
    rw [List.any_cons, List.any_cons, eqU_of r f.1, any_eqU t f.2]
theorem mem_eqAt {A : Around} {s : Shared} {x : V} {v : Value} (rx : RelV x v) (fx : flatV x = true) : ∀ {xs : List V} {us : List Value}, Vals xs us → xs.all flatV = true → ∀ u ∈ us, SeqAt.EqAt A s u v (eqU x u)
  | _, _, .nil, _ => fun u hu => by cases hu
  | y :: xs, u :: us, .cons r t, f => fun u' hu => by
    rw [List.all_cons, Bool.and_eq_true] at f
    rcases List.mem_cons.mp hu with rfl | hu
    · rw [eqU_of r f.1]; exact eqAt_V r rx f.1 fx
    · exact mem_eqAt rx fx t f.2 u' hu
def inV (x : V) (xs : List V) : Bool := xs.any fun y => eqV y x
def rIn (K : PySem.W.Frag) (neg : Bool) : R2 := fun x y H Q => ∃ p xs, y = .ref p ∧ (SqL K H p xs ∨ SqT K H p xs) ∧ flatV x = true ∧ xs.all flatV = true ∧ Q (.bl (if neg then !inV x xs else inV x xs)) H
theorem op_in_seq : OpR X (compareOp .In) (rIn X.K false) := by
  intro pins s σ H x y v u Q I rx ry h
  obtain ⟨p, xs, rfl, hq, fx, fs, q⟩ := h
  cases ry
  rcases hq with hq | hq
  · obtain ⟨its, r, pl, hz⟩ := I.list hq
    refine SeqAt.in_listAt (eqU x) pl.isList (fun w hw => mem_eqAt rx fx r fs w (by simpa using hw)) ⟨.bl _, H, I, rfl, ?_⟩
    rw [show its.toArray.any (eqU x) = its.any (eqU x) by simp, any_eqU r fs]
    exact q
  · obtain ⟨its, r, pl, hz⟩ := I.tuple hq
    refine SeqAt.in_tupleAt (eqU x) pl (fun w hw => mem_eqAt rx fx r fs w (by simpa using hw)) ⟨.bl _, H, I, rfl, ?_⟩
    rw [show its.toArray.any (eqU x) = its.any (eqU x) by simp, any_eqU r fs]
    exact q
theorem op_notIn_seq : OpR X (compareOp .NotIn) (rIn X.K true) := by
  intro pins s σ H x y v u Q I rx ry h
  obtain ⟨p, xs, rfl, hq, fx, fs, q⟩ := h
  cases ry
  rcases hq with hq | hq
  · obtain ⟨its, r, pl, hz⟩ := I.list hq
    refine SeqAt.notIn_listAt (eqU x) pl.isList (fun w hw => mem_eqAt rx fx r fs w (by simpa using hw)) ⟨.bl _, H, I, rfl, ?_⟩
    rw [show its.toArray.any (eqU x) = its.any (eqU x) by simp, any_eqU r fs]
    exact q
  · obtain ⟨its, r, pl, hz⟩ := I.tuple hq
    refine SeqAt.notIn_tupleAt (eqU x) pl (fun w hw => mem_eqAt rx fx r fs w (by simpa using hw)) ⟨.bl _, H, I, rfl, ?_⟩
    rw [show its.toArray.any (eqU x) = its.any (eqU x) by simp, any_eqU r fs]
    exact q
theorem call_len_seq : CallR X (.builtin "len") (fun xs H Q => ∃ p ys, xs = [.ref p] ∧ (SqL X.K H p ys ∨ SqT X.K H p ys) ∧ Q (.int ys.length) H) := by
  intro pins s σ H xs us Q I r h
  obtain ⟨p, ys, rfl, hq, q⟩ := h
  obtain ⟨u, rfl, rx⟩ := vals1 r
  cases rx
  have hn := line63
  rcases hq with hq | hq
  · obtain ⟨its, r', pl, hz⟩ := I.list hq
    have hlen := r'.length
    exact Calls.call_len_list pl.isList (by simp only [List.size_toArray] <;> omega) ⟨.int ys.length, H, I.tok _, ⟨s.toks + 1, by rw [List.size_toArray, hlen]⟩, q⟩
  · obtain ⟨its, r', pl, hz⟩ := I.tuple hq
    have hlen := r'.length
    exact len_tuple pl (by simp only [List.size_toArray] <;> omega) ⟨.int ys.length, H, I.tok _, ⟨s.toks + 1, by rw [List.size_toArray, hlen]⟩, q⟩
theorem call_list_of : CallR X (.type "list") (fun xs H Q => ∃ p ys, xs = [.ref p] ∧ (SqL X.K H p ys ∨ SqT X.K H p ys) ∧ ∀ l, H l = none → Q (.ref l) (upd H l (.lst ys))) := by
  intro pins s σ H xs us Q I r h
  obtain ⟨p, ys, rfl, hq, q⟩ := h
  obtain ⟨u, rfl, rx⟩ := vals1 r
  cases rx
  have fin : ∀ (its : List Value), Vals ys its → ys.length ≤ sizeLine → ∀ (h' : Heap) (c' : Nat), (∀ b o', s.heap.get? b = some o' → h'.get? b = some o') →
      h'.get? s.heap.objs.size = some { cls := .type "list", dict := none, data := .seq its.toArray c', slots := #[] } → EP X pins σ Q (.ref s.heap.objs.size) { s with heap := h' } := fun its r' hz h' c' kp e =>
    ⟨.ref s.heap.objs.size, _, I.laid (t' := s.toks) kp (Nat.le_refl _) (show ObjOk X.prog X.w _ h' _ (.lst ys) from ⟨hz, its, c', r', e⟩), rfl, q _ (I.hok.fresh (Nat.le_refl _))⟩
  rcases hq with hq | hq
  · obtain ⟨its, r', pl, hz⟩ := I.list hq
    have hlen := r'.length
    obtain ⟨o, ho, hc, n, hd⟩ := pl.isList
    exact call_list_seq p (.inl rfl) ho hc hd (fun h' c' kp e => fin its r' hz h' c' kp e) (by simp only [List.size_toArray] <;> omega)
  · obtain ⟨its, r', pl, hz⟩ := I.tuple hq
    have hlen := r'.length
    obtain ⟨o, ho, hc, n, hd⟩ := pl
    exact call_list_seq p (.inr rfl) ho hc hd (fun h' c' kp e => fin its r' hz h' c' kp e) (by simp only [List.size_toArray] <;> omega)
theorem call_tuple_of : CallR X (.type "tuple") (fun xs H Q => ∃ p ys, xs = [.ref p] ∧ ((SqL X.K H p ys ∧ ∀ l, H l = none → Q (.ref l) (upd H l (.tup ys))) ∨ (SqT X.K H p ys ∧ Q (.ref p) H))) := by
  intro pins s σ H xs us Q I r h
  obtain ⟨p, ys, rfl, h⟩ := h
  obtain ⟨u, rfl, rx⟩ := vals1 r
  cases rx
  rcases h with ⟨hq, q⟩ | ⟨hq, q⟩
  · obtain ⟨its, r', pl, hz⟩ := I.list hq
    have hlen := r'.length
    refine call_tuple_list pl.isList (fun h' kp => ?_) (by simp only [List.size_toArray] <;> omega)
    have I1 : Inv X pins σ H { s with heap := h' } := I.kept (t' := s.toks) kp
    have I2 : Inv X pins σ (upd H h'.objs.size (.tup ys)) { s with heap := h'.push { cls := .type "tuple", data := .seq its.toArray } } :=
      I1.laid (t' := s.toks) (fun b o e => Heap.get?_push_of_some _ e) (Nat.le_refl _) (show ObjOk X.prog X.w _ _ _ (.tup ys) from ⟨hz, its, r', IsTupN.new _ _⟩)
    exact ⟨.ref h'.objs.size, _, I2, rfl, q _ (I1.hok.fresh (Nat.le_refl _))⟩
  · obtain ⟨its, r', pl, hz⟩ := I.tuple hq
    exact call_tuple_same pl ⟨.ref p, H, I, rfl, q⟩
def tyV (K : PySem.W.Frag) (T : String) (x : V) (H : Hp) : Prop := match x with
  | .str _ => T = "str"
  | .int _ => T = "int"
  | .ref p => (T = "list" ∧ ∃ xs, SqL K H p xs) ∨ (T = "tuple" ∧ ∃ o, K.lookup p = some o ∧ o.cls = .type "tuple" ∧ o.dict = none) ∨
      (T = "dict" ∧ ((∃ kvs, H p = some (.dK kvs)) ∨ ∃ kvs, H p = some (.dT kvs))) ∨ (T = "set" ∧ ∃ S n, H p = some (.set S n))
  | _ => False
theorem tyV_is {pins : List (Addr × Obj)} {σ : St} {H : Hp} {s : Shared} {T : String} {x : V} {v : Value} (I : Inv X pins σ H s) (r : RelV x v) (ty : tyV X.K T x H) :
    s.TypeIs v T ∧ ∀ a, v = .ref a → ∃ ob, s.heap.get? a = some ob ∧ ob.dict = none := by
  cases x with
  | str z =>
    obtain ⟨t, rfl⟩ := r
    cases (show T = "str" from ty)
    exact ⟨typeIs_str s z t, fun _ e => nomatch e⟩
  | int i =>
    obtain ⟨t, rfl⟩ := r
    cases (show T = "int" from ty)
    exact ⟨typeIs_int s i t, fun _ e => nomatch e⟩
  | ref p =>
    cases r
    rcases ty with ⟨rfl, xs, hq⟩ | ⟨rfl, o, hk, hc, hd⟩ | ⟨rfl, hk⟩ | ⟨rfl, S, n, hk⟩
    · obtain ⟨its, _, pl, _⟩ := I.list hq
      refine ⟨pl.isList.typeIs, fun a e => ?_⟩
      cases e
      obtain ⟨o, n, e, c, hd, _⟩ := pl
      exact ⟨o, e, hd⟩
    · refine ⟨⟨o, I.kIn p o hk, hc⟩, fun a e => ?_⟩
      cases e
      exact ⟨o, I.kIn _ o hk, hd⟩
    · have z : ∃ o, s.heap.get? p = some o ∧ o.ExactDict := by
        rcases hk with ⟨kvs, hk⟩ | ⟨kvs, hk⟩
        · obtain ⟨_, _, _, _, o, _, _, e, ex, _⟩ := I.hok p _ hk
          exact ⟨o, e, ex⟩
        · obtain ⟨_, _, _, _, o, _, _, e, ex, _⟩ := I.hok p _ hk
          exact ⟨o, e, ex⟩
      obtain ⟨o, e, ex⟩ := z
      refine ⟨⟨o, e, ex.1⟩, fun a e2 => ?_⟩
      cases e2
      exact ⟨o, e, ex.2.1⟩
    · obtain ⟨o, _, _, _, e, ex, _⟩ := I.hok p _ hk
      refine ⟨⟨o, e, ex.1⟩, fun a e2 => ?_⟩
      cases e2
      exact ⟨o, e, ex.2.1⟩
  | _ => exact False.elim ty
def tBM0 (K : PySem.W.Frag) (T : String) (r : V → List V → Hp → VK → Prop) (to : TE) : TE := fun σ H Q => to σ H fun x H1 => tyV K T x H1 ∧ r x [] H1 Q
def tBM (K : PySem.W.Frag) (T : String) (r : V → List V → Hp → VK → Prop) (to : TE) (t : TA) : TE := fun σ H Q => to σ H fun x H1 => tyV K T x H1 ∧ t σ H1 fun xs H2 => r x xs H2 Q
variable {o e : Expr} {es : List Expr} {to : TE} {t : TA} {name : Str} {apos cpos : Pos} {T id : String} {r : V → List V → Hp → VK → Prop}
theorem pe_bm0 (pa : PlainAttrs T) (slot : Slot T name id) (hty : typeOf (.builtin id) = pure (.type "method_descriptor")) (hm : MtR X id r) (ho : PE X o to)
    (hbase : attributeBase o name X.env (eval o X.env) = eval o X.env := by rfl) (hline : (apos.endLine == cpos.line) = true := by rfl) : PE X (.Call (.Attribute o name apos) [] [] cpos) (tBM0 X.K T r to) := by
  intro pins s σ H Q I h
  refine wpAny_Call_method0_late hbase hline (thn (ho pins s σ H _ I h) fun v s1 ⟨x, H1, I1, r1, ty, q1⟩ => ?_)
  obtain ⟨h1, h2⟩ := tyV_is I1 r1 ty
  exact ⟨T, id, pa, slot, hty, h1, h2, Calls.callWith_builtin rfl (PySem.evalArgs_none (hm pins s1 σ H1 x [] v [] Q I1 r1 .nil q1))⟩
theorem pe_bm (pa : PlainAttrs T) (slot : Slot T name id) (hty : typeOf (.builtin id) = pure (.type "method_descriptor")) (hm : MtR X id r) (ho : PE X o to) (ha : PA X (e :: es) t)
    (hbase : attributeBase o name X.env (eval o X.env) = eval o X.env := by rfl)
    (hfew : ((backTo cpos (starEach (e :: es) X.env)).all (fun x => !x.1) && (backToKw cpos (keywordEach [] X.env)).all (fun x => x.1.isSome)
      && decide ((e :: es).length + ([] : List Keyword).length + (if ([] : List Keyword).isEmpty then 0 else 1) < 30)) = true := by rfl)
    (hline : (apos.endLine == cpos.line) = true := by rfl) (hs : starEach (e :: es) X.env = (false, eval e X.env) :: starEach es X.env := by rfl) (hplain : (backTo cpos (starEach es X.env)).any (·.1) = false := by rfl) :
    PE X (.Call (.Attribute o name apos) (e :: es) [] cpos) (tBM X.K T r to t) := by
  intro pins s σ H Q I h
  refine wpAny_Call_method_late hbase hfew hline rfl (thn (ho pins s σ H _ I h) fun v s1 ⟨x, H1, I1, r1, ty, q1⟩ => ?_)
  obtain ⟨h1, h2⟩ := tyV_is I1 r1 ty
  refine ⟨T, id, pa, slot, hty, h1, h2, ?_⟩
  have hA := ha cpos pins s1 σ H1 _ I1 q1
  rw [hs] at hA ⊢
  refine Calls.callWith_builtin (by show (false || (backTo cpos (starEach es X.env)).any (·.1)) = false; rw [hplain] <;> rfl) (Calls.evalArgs_plain ?_)
  exact thn hA fun us s2 ⟨vs, H2, I2, r2, q2⟩ => hm pins s2 σ H2 x vs v us Q I2 r1 r2 q2
end
end L2
namespace L2
open PySem PySem.Spec PyProof.Rows
def MtM (X : Cx) (id : String) (r : V → List V → Hp → VK → Prop) : Prop :=
  ∀ (pins : List (Addr × Obj)) (s : Shared) (σ : St) (H : Hp) (x : V) (xs : List V) (v : Value) (us : List Value) (Q : VK), Inv X pins σ H s → RelV x v → Vals xs us → r x xs H Q →
    wpAny (model X.prog X.w) X.A (call (.builtin id) (v :: us)) (EP X pins σ Q) X.xe s
theorem Vals.one : ∀ {x : V} {us : List Value}, Vals [x] us → ∃ u, us = [u] ∧ RelV x u
  | _, _, .cons r .nil => ⟨_, rfl, r⟩
theorem Vals.two : ∀ {x y : V} {us : List Value}, Vals [x, y] us → ∃ u v, us = [u, v] ∧ RelV x u ∧ RelV y v
  | _, _, _, .cons r (.cons q .nil) => ⟨_, _, rfl, r, q⟩
theorem Vals.zero : ∀ {us : List Value}, Vals [] us → us = []
  | _, .nil => rfl
theorem Vals.dropLast {xs : List V} {us : List Value} (h : Vals xs us) : Vals xs.dropLast us.dropLast := by
  induction h with
  | nil => exact .nil
  | cons r t ih =>
    cases t with
    | nil => exact .nil
    | cons q t' => exact .cons r ih
theorem Vals.reverse {xs : List V} {us : List Value} (h : Vals xs us) : Vals xs.reverse us.reverse := by
  induction h with
  | nil => exact .nil
  | cons r t ih => rw [List.reverse_cons, List.reverse_cons]; exact Vals.append ih (.cons r .nil)
theorem erase_last {α : Type} (l : List α) : l.eraseIdx (l.length - 1) = l.dropLast := by
  induction l with
  | nil => rfl
  | cons a r ih =>
    cases r with
    | nil => rfl
    | cons b r =>
      have e : (a :: b :: r).length - 1 = ((b :: r).length - 1) + 1 := by
        have h1 : (a :: b :: r).length = r.length + 2 := rfl
        have h2 : (b :: r).length = r.length + 1 := rfl
        omega
      rw [e, List.eraseIdx_cons_succ, ih]
      all_goals rfl
section
variable {X : Cx} {pins : List (Addr × Obj)} {σ : St} {H : Hp} {s : Shared} {l b : Addr} {xs ys zs : List V}
theorem Inv.lset {its its' : List Value} {n : Nat} {f : Array Value → Array Value} {t' : Nat} (I : Inv X pins σ H s) (hH : H l = some (.lst xs))
    (e : s.heap.get? l = some { cls := .type "list", data := .seq its.toArray n }) (hf : f its.toArray = its'.toArray) (hv : Vals ys its') (hz : ys.length ≤ sizeLine) :
    Inv X pins σ (upd H l (.lst ys)) { s with heap := s.heap.update l (Obj.mapSeq f), toks := t' } := by
  have q := PySem.IsL.update e f
  rw [hf] at q
  refine I.write (x := l) (e := l) (by rw [hH]; exact trivial) (.inl rfl) (fun b' u hb hu => (Heap.get?_update_other s.heap (Obj.mapSeq f) (Ne.symm hb)).trans hu) ⟨_, q⟩ ?_
  exact ⟨hz, its', _, hv, q⟩
theorem Inv.lnew {its : List Value} {t' : Nat} (I : Inv X pins σ H s) (hv : Vals ys its) (hz : ys.length ≤ sizeLine) :
    Inv X pins σ (upd H s.heap.objs.size (.lst ys)) { s with heap := s.heap.push { cls := .type "list", data := .seq its.toArray }, toks := t' } :=
  I.laid (fun _ _ q => Heap.get?_push_of_some _ q) (Nat.le_refl _) ⟨hz, its, 0, hv, Heap.get?_push_size _ rfl⟩
theorem Inv.fresh (I : Inv X pins σ H s) : H s.heap.objs.size = none := I.hok.fresh (Nat.le_refl _)
theorem Inv.lstM (I : Inv X pins σ H s) (hH : H l = some (.lst xs)) : xs.length ≤ sizeLine ∧ ∃ (its : List Value) (n : Nat), Vals xs its ∧ xs.length = its.length ∧ s.heap.get? l = some { cls := .type "list", data := .seq its.toArray n } := by
  obtain ⟨z, its, n, r, e⟩ := I.hok l _ hH
  exact ⟨z, its, n, r, r.length, e⟩
theorem notLongL {n : Nat} (h : n ≤ sizeLine) : Builtin.List.listTooLong n = false := by
  unfold Builtin.List.listTooLong
  exact decide_eq_false (by omega)
end
section
variable {X : Cx}
def rAppend : V → List V → Hp → VK → Prop := fun x vs H Q => ∃ l xs y, x = .ref l ∧ vs = [y] ∧ H l = some (.lst xs) ∧ xs.length < sizeLine ∧ Q .non (upd H l (.lst (xs ++ [y])))
theorem mt_append : MtM X "list.append" rAppend := by
  intro pins s σ H x vs v us Q I rx rv h
  obtain ⟨l, xs, y, rfl, rfl, hH, hz, q⟩ := h
  cases rx
  obtain ⟨u, rfl, ru⟩ := rv.one
  obtain ⟨z, its, n, r, hl, e⟩ := I.lstM hH
  refine call_meets F.slot_list_append ⟨_, e, rfl⟩ F.entry_list_append (F.args_list_append_2 _ _) (PySem.list_append l its.toArray n u (by rw [List.size_toArray]; omega)) ⟨e, ?_⟩
  refine ⟨.non, _, I.lset (its' := its ++ [u]) hH e (by simp) (r.append (.cons ru .nil)) ?_, rfl, q⟩
  rw [List.length_append, List.length_singleton]
  omega
def rExtend : V → List V → Hp → VK → Prop := fun x vs H Q => ∃ l b xs zs, x = .ref l ∧ vs = [.ref b] ∧ H l = some (.lst xs) ∧ H b = some (.lst zs) ∧ xs.length + zs.length ≤ sizeLine ∧ Q .non (upd H l (.lst (xs ++ zs)))
theorem mt_extend : MtM X "list.extend" rExtend := by
  intro pins s σ H x vs v us Q I rx rv h
  obtain ⟨l, b, xs, zs, rfl, rfl, hH, hB, hz, q⟩ := h
  cases rx
  obtain ⟨u, rfl, ru⟩ := rv.one
  cases ru
  obtain ⟨z, its, n, r, hl, e⟩ := I.lstM hH
  obtain ⟨z2, its2, n2, r2, hl2, e2⟩ := I.lstM hB
  have hsz : its.toArray.size + its2.toArray.size ≤ sizeLine := by rw [List.size_toArray, List.size_toArray]; omega
  have hlong : ¬ (!its.toArray.isEmpty && Builtin.List.listTooLong (its.toArray.size + its2.toArray.size)) = true := by
    rw [notLongL hsz, Bool.and_false]
    exact Bool.false_ne_true
  refine call_meets F.slot_list_extend ⟨_, e, rfl⟩ F.entry_list_extend (F.args_list_extend_2 _ _)
    (AutoSeq1.list_extend_list_list_0 l its.toArray n b its2.toArray n2 hlong (by rw [List.size_toArray]; omega) (by omega)) ⟨e, e2, ?_⟩
  refine ⟨.non, _, I.lset (its' := its ++ its2) hH e (by simp) (r.append r2) ?_, rfl, q⟩
  rw [List.length_append]
  omega
def rPop : V → List V → Hp → VK → Prop := fun x vs H Q => ∃ l xs y, x = .ref l ∧ vs = [] ∧ H l = some (.lst xs) ∧ xs[xs.length - 1]? = some y ∧ Q y (upd H l (.lst xs.dropLast))
theorem mt_pop : MtM X "list.pop" rPop := by
  intro pins s σ H x vs v us Q I rx rv h
  obtain ⟨l, xs, y, rfl, rfl, hH, hy, q⟩ := h
  cases rx
  have hus := rv.zero
  subst hus
  obtain ⟨z, its, n, r, hl, e⟩ := I.lstM hH
  obtain ⟨u, hu, ru⟩ := r.get hy
  have hy' : its.toArray[its.toArray.size - 1]? = some u := by
    show its.toArray[its.length - 1]? = some u
    rw [← Array.getElem?_toList, ← hl]
    exact hu
  refine call_meets F.slot_list_pop ⟨_, e, rfl⟩ F.entry_list_pop (F.args_list_pop_1 _) (MeetsSeq.list_pop_last l its.toArray n u hy' (by rw [List.size_toArray]; omega)) ⟨e, ?_⟩
  refine ⟨y, _, I.lset (its' := its.dropLast) hH e ?_ r.dropLast ?_, ru, q⟩
  · show its.toArray.eraseIdxIfInBounds (its.toArray.size - 1) = its.dropLast.toArray
    rw [List.size_toArray, List.eraseIdxIfInBounds_toArray, erase_last]
  · rw [List.length_dropLast]
    omega
def rReverse : V → List V → Hp → VK → Prop := fun x vs H Q => ∃ l xs, x = .ref l ∧ vs = [] ∧ H l = some (.lst xs) ∧ Q .non (upd H l (.lst xs.reverse))
theorem mt_reverse : MtM X "list.reverse" rReverse := by
  intro pins s σ H x vs v us Q I rx rv h
  obtain ⟨l, xs, rfl, rfl, hH, q⟩ := h
  cases rx
  have hus := rv.zero
  subst hus
  obtain ⟨z, its, n, r, hl, e⟩ := I.lstM hH
  refine call_meets F.slot_list_reverse ⟨_, e, rfl⟩ F.entry_list_reverse (F.args_list_reverse_1 _) (AutoSeq1.list_reverse_list_0 l its.toArray n (by rw [List.size_toArray]; omega)) ⟨e, ?_⟩
  refine ⟨.non, _, I.lset (its' := its.reverse) hH e (by simp) r.reverse ?_, rfl, q⟩
  rw [List.length_reverse]
  omega
def rCat : R2 := fun x y H Q => ∃ l b xs zs, x = .ref l ∧ y = .ref b ∧ H l = some (.lst xs) ∧ H b = some (.lst zs) ∧ xs.length + zs.length ≤ sizeLine ∧ ∀ p, H p = none → Q (.ref p) (upd H p (.lst (xs ++ zs)))
theorem op_cat : OpR X (binaryOp .Add) rCat := by
  intro pins s σ H x y v u Q I rx ry h
  obtain ⟨l, b, xs, zs, rfl, rfl, hH, hB, hz, q⟩ := h
  cases rx
  cases ry
  obtain ⟨z, its, n, r, hl, e⟩ := I.lstM hH
  obtain ⟨z2, its2, n2, r2, hl2, e2⟩ := I.lstM hB
  refine PySem.P.add_list e e2 ?_ (by rw [List.size_toArray, List.size_toArray]; omega)
  have ea : its.toArray ++ its2.toArray = (its ++ its2).toArray := by simp
  rw [ea]
  exact ⟨.ref _, _, I.lnew (t' := s.toks) (r.append r2) (by rw [List.length_append]; omega), rfl, q _ I.fresh⟩
end
section
variable {prog : Program} {w : World} {A : Around} {E : Value → Shared → Prop} {s : Shared}
theorem bounds_run {a c n : Nat} (hac : a ≤ c) (hc : c ≤ n) : sliceBounds (some (a : Int)) (some (c : Int)) none n = ((a : Int), (c : Int), 1) := by
  simp only [sliceBounds, Option.getD_none]
  have h1 : ¬ ((a : Int) < 0) := by omega
  have h2 : ¬ ((c : Int) < 0) := by omega
  simp only [h1, h2, if_false, show (1 : Int) > 0 by decide, if_true]
  congr 1
  · omega
  · congr 1; omega
set_option maxRecDepth 100000 in
theorem setItem_slice {l b sl : Addr} {items new : Array Value} {n n2 : Nat} {vl vu : Value} {a c : Nat} {Q : Unit → Shared → Prop}
    (e : s.heap.get? l = some { cls := .type "list", data := .seq items n }) (e2 : s.heap.get? b = some { cls := .type "list", data := .seq new n2 }) (hne : l ≠ b)
    (hs : s.heap.IsSliceOf sl vl vu .none) (pl : IsPart vl (some (a : Int))) (pu : IsPart vu (some (c : Int))) (hac : a ≤ c) (hc : c ≤ items.size)
    (hsz : items.size + new.size ≤ sizeLine) (h : Q () { s with heap := s.heap.update l (Obj.mapSeq fun xs => xs.extract 0 a ++ new ++ xs.extract c xs.size) }) :
    wpAny (model prog w) A (setItem (.ref l) (.ref sl) (.ref b)) Q E s := by
  have hl : s.heap.IsList l items := PySem.IsL.isList e
  have hb : s.heap.IsList b new := PySem.IsL.isList e2
  obtain ⟨os, hos, hcs, hds⟩ := id hs
  have hTs : s.TypeIs (.ref sl) "slice" := ⟨os, hos, hcs⟩
  have hstep : ¬ ((rawPart none == rawInt 0) = true) := Bool.false_ne_true
  have hsame : Builtin.List.listSameRef (.ref l) (.ref b) = false := by
    unfold Builtin.List.listSameRef
    exact beq_eq_false_iff_ne.mpr hne
  have hmax : (max (a : Int) (c : Int)).toNat = c := by omega
  have hz' : ((fun xs : Array Value => xs.extract 0 a ++ new ++ xs.extract c xs.size) items).size ≤ sizeLine + 1 := by
    simp only [Array.size_append, Array.size_extract]
    omega
  unfold setItem
  try with_reducible refine wpAny_holding ?_
  first | refine wpAny_bind (wpAny_pure ?_) | skip
  refine wpAny_bind (wpAny_sequenceKey hl.typeIs (by decide) ?_)
  refine wpAny_bind (wpAny_callSpecial?_slot (name := Str.ofString "__setitem__") hl.typeIs slot_list_setitem
    (wpAny_call_entry slot_list_setitem hl.typeIs entry_list_setitem ?_ (args_list_setitem _ _ _)))
  show wpAny _ _ (Builtin.List.listSubscript? (.ref sl) >>= _) _ _ s
  refine wpAny_bind ?_
  unfold Builtin.List.listSubscript?
  refine wpAny_bind (wpAny_specialOf hTs slice_no_index ?_)
  simp only [Option.isNone_none, if_true]
  refine wpAny_pure ?_
  show wpAny _ _ (typeOf (.ref sl) >>= _) _ _ s
  refine wpAny_bind (wpAny_typeOf hTs ?_)
  first
    | rw [if_neg (by decide)]
    | refine PySem.W.KFB.if_not (by decide) ?_
  rw [listSliceParts_eq]
  refine wpAny_bind (wpAny_bind (wpAny_field hos hds (x := .none) rfl (wpAny_bind (wpAny_listPart .none ?_))))
  rw [if_neg hstep]
  refine wpAny_bind (wpAny_field hos hds (x := vl) rfl (wpAny_bind (wpAny_listPart pl ?_)))
  refine wpAny_bind (wpAny_field hos hds (x := vu) rfl (wpAny_bind (wpAny_listPart pu (wpAny_pure ?_))))
  first
    | simp only [hsame, Bool.false_eq_true, if_false]
    | refine PySem.W.KFB.if_not hsame ?_
    | (dsimp only
       rw [if_neg (by rw [hsame]; exact Bool.false_ne_true)])
  refine wpAny_bind (m := Builtin.List.listAllItems (.ref b) "must assign iterable to extended slice") ?_
  unfold Builtin.List.listAllItems
  refine wpAny_bind (wpAny_typeOf hb.typeIs ?_)
  first
    | refine PySem.W.KFB.if_so (by decide) ?_
    | rw [if_pos (by decide)]
    | simp only [beq_self_eq_true, Bool.true_or, if_true]
  unfold Builtin.List.listItems
  refine wpAny_bind (wpAny_seqItems e2 rfl (wpAny_pure ?_))
  refine wpAny_bind (wpAny_bind (wpAny_seqItems e rfl (wpAny_pure ?_)))
  refine wpAny_bind (wpAny_of_eq ((sliceIndices_raw (some (a : Int)) (some (c : Int)) none items.size (by simp)).trans (congrArg (pure : Int × Int × Int → Sem (Int × Int × Int)) (bounds_run hac hc))) ?_)
  show wpAny _ _ (if ((1 : Int) == 1) = true then _ else _) _ _ s
  rw [if_pos (by decide)]
  refine wpAny_bind (wpAny_rule ?_)
  first
    | simp only [notLongL hsz, Bool.false_eq_true, if_false]
    | refine PySem.W.KFB.if_not (notLongL hsz) ?_
  first | refine wpAny_bind (wpAny_pure ?_) | skip
  show wpAny _ _ (updateSeq l (fun xs => xs.extract 0 ((a : Int)).toNat ++ new ++ xs.extract (max (a : Int) (c : Int)).toNat xs.size) >>= _) _ _ s
  rw [hmax, Int.toNat_natCast]
  refine wpAny_bind (wpAny_updateSeq (hz := Nat.le_trans (Nat.le_add_right _ _) hsz) (_hz' := hz') e rfl ?_)
  refine wpAny_bind (wpAny_letGo ?_)
  first
    | exact wpAny_bind (wpAny_pure (wpAny_pure ⟨.none, rfl, wpAny_pure h⟩))
    | exact wpAny_pure ⟨.none, rfl, wpAny_pure h⟩
end
section
variable {X : Cx}
end
end L2
namespace L2
open PySem PySem.Spec PyProof.Rows
section
variable {κ : Type} [DecidableEq κ]
def valV (kvs : List (κ × V)) (k : κ) : Option V := (kvs.find? fun kv => decide (kv.1 = k)).map (·.2)
def putK (kvs : List (κ × V)) (k : κ) (v : V) : List (κ × V) :=
  if (kvs.any fun kv => decide (kv.1 = k)) = true then kvs.map (fun kv => if kv.1 = k then (kv.1, v) else kv) else kvs ++ [(k, v)]
theorem valV_pos {p : κ × V} {r : List (κ × V)} {k : κ} (e : p.1 = k) : valV (p :: r) k = some p.2 := by simp [valV, List.find?_cons, e]
theorem valV_neg {p : κ × V} {r : List (κ × V)} {k : κ} (e : ¬ p.1 = k) : valV (p :: r) k = valV r k := by simp [valV, List.find?_cons, e]
theorem valV_any (k : κ) : ∀ kvs : List (κ × V), (kvs.any fun kv => decide (kv.1 = k)) = (valV kvs k).isSome
  | [] => rfl
  | p :: r => by
    rw [List.any_cons]
    by_cases e : p.1 = k
    · simp only [valV_pos e, decide_eq_true e, Bool.true_or, Option.isSome_some]
    · rw [valV_neg e, decide_eq_false e, Bool.false_or]; exact valV_any k r
theorem valV_map (k j : κ) (y : V) : ∀ kvs : List (κ × V), valV (kvs.map fun kv => if kv.1 = k then (kv.1, y) else kv) j = (valV kvs j).map fun x => if j = k then y else x
  | [] => rfl
  | p :: r => by
    have ih := valV_map k j y r
    rw [List.map_cons]
    by_cases h : p.1 = k
    · rw [if_pos h]
      by_cases e : p.1 = j
      · rw [valV_pos (p := (p.1, y)) e, valV_pos e, Option.map_some, if_pos (e.symm.trans h)]
      · rw [valV_neg (p := (p.1, y)) e, valV_neg e, ih]
    · rw [if_neg h]
      by_cases e : p.1 = j
      · rw [valV_pos (p := p) e, valV_pos e, Option.map_some, if_neg (fun z => h (e.trans z))]
      · rw [valV_neg (p := p) e, valV_neg e, ih]
theorem valV_snoc (k j : κ) (y : V) : ∀ kvs : List (κ × V), valV kvs k = none → valV (kvs ++ [(k, y)]) j = if j = k then some y else valV kvs j
  | [], _ => by
    by_cases e : k = j
    · rw [if_pos e.symm]; exact valV_pos (p := (k, y)) e
    · rw [if_neg (fun z => e z.symm)]; exact valV_neg (p := (k, y)) e
  | p :: r, hn => by
    rw [List.cons_append]
    have hk : ¬ p.1 = k := fun z => by rw [valV_pos z] at hn; cases hn
    rw [valV_neg hk] at hn
    have ih := valV_snoc k j y r hn
    by_cases e : p.1 = j
    · rw [valV_pos e, valV_pos e, if_neg (fun z => hk (e.trans z))]
    · rw [valV_neg e, valV_neg e, ih]
theorem valV_put (kvs : List (κ × V)) (k j : κ) (y : V) : valV (putK kvs k y) j = if j = k then some y else valV kvs j := by
  unfold putK
  by_cases a : (kvs.any fun kv => decide (kv.1 = k)) = true
  · rw [if_pos a, valV_map]
    rw [valV_any] at a
    by_cases e : j = k
    · obtain ⟨x, hx⟩ := Option.isSome_iff_exists.mp a
      rw [if_pos e, e, hx, Option.map_some, if_pos rfl]
    · rw [if_neg e]
      cases valV kvs j with
      | none => rfl
      | some x => rw [Option.map_some, if_neg e]
  · rw [if_neg a]
    refine valV_snoc k j y kvs ?_
    rw [valV_any] at a
    cases q : valV kvs k with
    | none => rfl
    | some x => rw [q] at a; exact (a rfl).elim
theorem length_putK (kvs : List (κ × V)) (k : κ) (v : V) : (putK kvs k v).length ≤ kvs.length + 1 := by
  unfold putK
  split
  · rw [List.length_map]; omega
  · rw [List.length_append, List.length_cons, List.length_nil]; omega
theorem putK_new {kvs : List (κ × V)} {k : κ} (v : V) (h : valV kvs k = none) : putK kvs k v = kvs ++ [(k, v)] := by
  unfold putK
  rw [valV_any, h]
  exact if_neg (by decide)
theorem RelO.isSome_eq {o : Option V} {u : Option Value} (r : RelO o u) : o.isSome = u.isSome := by
  cases o with
  | none => cases u with
    | none => rfl
    | some _ => exact (show False from r).elim
  | some _ => cases u with
    | none => exact (show False from r).elim
    | some _ => rfl
theorem KV.val {kvs : List (κ × V)} {vs : List (κ × Value)} (r : KV kvs vs) (k : κ) : RelO (valV kvs k) (valueAt vs k) := by
  unfold KV at r
  induction r with
  | nil => exact True.intro
  | @cons p q ps qs h t ih =>
    obtain ⟨h1, h2⟩ := h
    by_cases e : p.1 = k
    · have e' : q.1 = k := h1.symm.trans e
      have b : valueAt (q :: qs) k = some q.2 := by simp [valueAt, List.find?_cons, e']
      rw [valV_pos e, b]; exact h2
    · have e' : ¬ q.1 = k := fun z => e (h1.trans z)
      have b : valueAt (q :: qs) k = valueAt qs k := by simp [valueAt, List.find?_cons, e']
      rw [valV_neg e, b]; exact ih
theorem KV.any {kvs : List (κ × V)} {vs : List (κ × Value)} (r : KV kvs vs) (k : κ) : (kvs.any fun kv => decide (kv.1 = k)) = vs.any fun kv => decide (kv.1 = k) := by
  unfold KV at r
  induction r with
  | nil => rfl
  | cons h t ih => rw [List.any_cons, List.any_cons, ih, h.1]
theorem KV.repl {kvs : List (κ × V)} {vs : List (κ × Value)} (r : KV kvs vs) (k : κ) {y : V} {u : Value} (ry : RelV y u) :
    KV (kvs.map fun kv => if kv.1 = k then (kv.1, y) else kv) (vs.map fun kv => if kv.1 = k then (kv.1, u) else kv) := by
  unfold KV at r ⊢
  induction r with
  | nil => exact .nil
  | @cons p q ps qs h t ih =>
    rw [List.map_cons, List.map_cons]
    refine .cons ?_ ih
    obtain ⟨h1, h2⟩ := h
    by_cases e : p.1 = k
    · rw [if_pos e, if_pos (h1.symm.trans e)]; exact ⟨h1, ry⟩
    · rw [if_neg e, if_neg (fun z => e (h1.trans z))]; exact ⟨h1, h2⟩
theorem KV.put {kvs : List (κ × V)} {vs : List (κ × Value)} (r : KV kvs vs) (k : κ) {y : V} {u : Value} (ry : RelV y u) : KV (putK kvs k y) (stored vs k u) := by
  unfold putK stored
  rw [r.any k]
  by_cases e : (vs.any fun kv => decide (kv.1 = k)) = true
  · rw [if_pos e, if_pos e]; exact r.repl k ry
  · rw [if_neg e, if_neg e]; exact Paired.snoc r ⟨rfl, ry⟩
theorem KV.length {kvs : List (κ × V)} {vs : List (κ × Value)} (r : KV kvs vs) : kvs.length = vs.length := Paired.length r
end
theorem kV_is {P : Program} {w : World} {k : Key} {u : Value} (r : RelV (kV k) u) : (mixKind P w).is k u = true := by
  cases k with
  | inl i => obtain ⟨t, e⟩ := (show ∃ t, u = Value.int i t from r); subst e; exact mixKind_int P w i t
  | inr x => obtain ⟨t, e⟩ := (show ∃ t, u = Value.str x t from r); subst e; exact mixKind_str P w x t
theorem items_are {P : Program} {w : World} : ∀ {ks : List Key} {us : List Value}, Vals (ks.map kV) us → ItemsAre (mixKind P w) ks us
  | [], _, r => by rw [List.map_nil] at r; cases r; exact .nil
  | k :: ks, _, r => by
    rw [List.map_cons] at r
    cases r with
    | cons h t => exact .cons (kV_is h) (items_are t)
abbrev KT (H : Hp) : List (List Key × V) → List (List Key × Addr × Value) → Prop := Paired fun p q => p.1 = q.1 ∧ H q.2.1 = some (.tup (p.1.map kV)) ∧ RelV p.2 q.2.2
theorem KT.val {H : Hp} {kvs : List (List Key × V)} {xs : List (List Key × Addr × Value)} (r : KT H kvs xs) (k : List Key) : RelO (valV kvs k) ((atKey xs k).map (·.2)) := by
  induction r with
  | nil => exact True.intro
  | @cons p q ps qs h t ih =>
    obtain ⟨h1, _, h2⟩ := h
    by_cases e : p.1 = k
    · have e' : q.1 = k := h1.symm.trans e
      have b : atKey (q :: qs) k = some q.2 := by simp [atKey, List.find?_cons, e']
      rw [valV_pos e, b]; exact h2
    · have e' : ¬ q.1 = k := fun z => e (h1.trans z)
      have b : atKey (q :: qs) k = atKey qs k := by simp [atKey, List.find?_cons, e']
      rw [valV_neg e, b]; exact ih
theorem KT.repl {H : Hp} {kvs : List (List Key × V)} {xs : List (List Key × Addr × Value)} (r : KT H kvs xs) (k : List Key) {y : V} {u : Value} (ry : RelV y u) :
    KT H (kvs.map fun kv => if kv.1 = k then (kv.1, y) else kv) (xs.map (putAt k u)) := by
  induction r with
  | nil => exact .nil
  | @cons p q ps qs h t ih =>
    rw [List.map_cons, List.map_cons]
    refine .cons ?_ ih
    obtain ⟨h1, h2, h3⟩ := h
    unfold putAt
    by_cases e : p.1 = k
    · rw [if_pos e, if_pos (h1.symm.trans e)]; exact ⟨h1, h2, ry⟩
    · rw [if_neg e, if_neg (fun z => e (h1.trans z))]; exact ⟨h1, h2, h3⟩
theorem KT.put {H : Hp} {kvs : List (List Key × V)} {xs : List (List Key × Addr × Value)} (r : KT H kvs xs) (k : List Key) {b : Addr} {y : V} {u : Value} (hb : H b = some (.tup (k.map kV))) (ry : RelV y u) :
    KT H (putK kvs k y) (storedH xs k b u) := by
  have e : (kvs.any fun kv => decide (kv.1 = k)) = (atKey xs k).isSome := by
    rw [valV_any, (r.val k).isSome_eq, Option.isSome_map]
  unfold putK storedH
  rw [e]
  by_cases q : (atKey xs k).isSome = true
  · rw [if_pos q, if_pos q]; exact r.repl k ry
  · rw [if_neg q, if_neg q]; exact Paired.snoc r ⟨rfl, hb, ry⟩
theorem KT.keeps {H H' : Hp} {kvs : List (List Key × V)} {xs : List (List Key × Addr × Value)} (r : KT H kvs xs) (ht : ∀ b ys, H b = some (.tup ys) → H' b = some (.tup ys)) : KT H' kvs xs :=
  Paired.mapP r fun _ _ z => ⟨z.1, ht _ _ z.2.1, z.2.2⟩
section
variable {P : Program} {w : World} {H : Hp} {h : Heap} {a : Addr}
theorem rd_of {u : HO} (ok : HOk P w H h) (e : Rd H a u) : ObjOk P w H h a u := e.ok ok
theorem dk_rd {kvs : List (Key × V)} (ok : HOk P w H h) (e : Rd H a (.dK kvs)) : kvs.length ≤ sizeLine ∧ (a == sysModules) = false ∧ ∃ vs, KV kvs vs ∧ h.DictOf (mixKind P w) a vs :=
  show ObjOk P w H h a (.dK kvs) from rd_of ok e
theorem dk_of {kvs : List (Key × V)} (ok : HOk P w H h) (e : H a = some (.dK kvs)) : kvs.length ≤ sizeLine ∧ (a == sysModules) = false ∧ ∃ vs, KV kvs vs ∧ h.DictOf (mixKind P w) a vs := dk_rd ok (.inl e)
theorem key_of {ks : List Key} (ok : HOk P w H h) (e : H a = some (.tup (ks.map kV))) : (tupleKind (mixKind P w)).is h ks a := by
  obtain ⟨_, its, r, o, h1, h2, ⟨n, h3⟩, _⟩ := (show ObjOk P w H h a (.tup (ks.map kV)) from ok a _ e)
  exact ⟨o, its.toArray, n, h1, h2, h3, by simpa using items_are r⟩
theorem dt_rd {kvs : List (List Key × V)} (ok : HOk P w H h) (e : Rd H a (.dT kvs)) : kvs.length ≤ sizeLine ∧ (a == sysModules) = false ∧
    ∃ xs, KT H kvs xs ∧ h.DictOfH (tupleKind (mixKind P w)) a xs := by
  obtain ⟨z, y, xs, r, o, es, ep, h1, h2, h3, h4, h5⟩ := (show ObjOk P w H h a (.dT kvs) from rd_of ok e)
  refine ⟨z, y, xs, r, o, es, ep, h1, h2, h3, h4, fun x hx => ?_, h5⟩
  have all : ∀ {l : List (List Key × V)} {m : List (List Key × Addr × Value)}, KT H l m → ∀ x ∈ m, (tupleKind (mixKind P w)).is h x.1 x.2.1 := by
    intro l m q
    induction q with
    | nil => intro x hx; exact nomatch hx
    | @cons p q ps qs hq t ih =>
      intro x hx
      rcases List.mem_cons.mp hx with e | hx
      · subst e
        exact key_of ok (by rw [← hq.1]; exact hq.2.1)
      · exact ih x hx
  exact all r x hx
theorem dt_of {kvs : List (List Key × V)} (ok : HOk P w H h) (e : H a = some (.dT kvs)) : kvs.length ≤ sizeLine ∧ (a == sysModules) = false ∧
    ∃ xs, KT H kvs xs ∧ h.DictOfH (tupleKind (mixKind P w)) a xs := dt_rd ok (.inl e)
end
def DGet (H : Hp) (a : Addr) (y : V) (r : Option V) : Prop :=
  (∃ kvs k, Rd H a (.dK kvs) ∧ y = kV k ∧ r = valV kvs k) ∨ ∃ kvs k b, Rd H a (.dT kvs) ∧ y = .ref b ∧ H b = some (.tup (k.map kV)) ∧ r = valV kvs k
def DPut (H : Hp) (a : Addr) (y v : V) (H' : Hp) : Prop :=
  (∃ kvs k, H a = some (.dK kvs) ∧ y = kV k ∧ kvs.length < sizeLine ∧ H' = upd H a (.dK (putK kvs k v))) ∨
  ∃ kvs k b, H a = some (.dT kvs) ∧ y = .ref b ∧ H b = some (.tup (k.map kV)) ∧ kvs.length < sizeLine ∧ H' = upd H a (.dT (putK kvs k v))
theorem DGet.k {H : Hp} {a : Addr} {kvs : List (Key × V)} {k : Key} (e : H a = some (.dK kvs)) : DGet H a (kV k) (valV kvs k) := .inl ⟨kvs, k, .inl e, rfl, rfl⟩
theorem DPut.k {H : Hp} {a : Addr} {kvs : List (Key × V)} {k : Key} {v : V} (e : H a = some (.dK kvs)) (hl : kvs.length < sizeLine) : DPut H a (kV k) v (upd H a (.dK (putK kvs k v))) := .inl ⟨kvs, k, e, rfl, hl, rfl⟩
section
variable {X : Cx} {pins : List (Addr × Obj)} {σ : St} {H : Hp} {s : Shared} {a : Addr} {y v : V} {u r : Value} {o : Option V} {A : Around} {E : Value → Shared → Prop}
theorem Inv.big (I : Inv X pins σ H s) : sysModules < s.heap.objs.size := by
  have h : mainGlobals < s.heap.objs.size := (I.mod.glob.keeps I.bk).lt
  exact Nat.lt_trans (by decide) h
theorem d_getItem {Q : Value → Shared → Prop} (hu : A.units + 1 < cLine) (I : Inv X pins σ H s) (g : DGet H a y (some v)) (ry : RelV y u) (h : ∀ w' s', Inv X pins σ H s' → RelV v w' → Q w' s') :
    wpAny (model X.prog X.w) A (getItem (.ref a) u) Q E s := by
  rcases g with ⟨kvs, k, e, ey, l⟩ | ⟨kvs, k, b, e, ey, eb, l⟩
  · subst ey
    obtain ⟨z, hd, vs, rel, dd⟩ := dk_rd I.hok e
    obtain ⟨w', hw, rw'⟩ := RelO.some_of (v := v) (o := valueAt vs k) (by rw [l]; exact rel.val k)
    exact wpAny_getItem_of (kV_is ry) dd.mapOf hw (h w' _ (I.tok _) rw')
  · subst ey
    cases (show u = Value.ref b from ry)
    obtain ⟨z, hd, xs, rel, dd⟩ := dt_rd I.hok e
    obtain ⟨w', hw, rw'⟩ := RelO.some_of (v := v) (o := (atKey xs k).map (·.2)) (by rw [l]; exact rel.val k)
    obtain ⟨p, hp, hp2⟩ := Option.map_eq_some_iff.mp hw
    refine wpAny_getItem_heap (tupleKind_room_in1 hu) (key_of I.hok eb) dd hp ?_
    rw [hp2]
    exact h w' _ (I.tok _) rw'
theorem d_in {Q : Value → Shared → Prop} (hu : A.units + 1 < cLine) (I : Inv X pins σ H s) (g : DGet H a y o) (ry : RelV y u) (h : ∀ s', Inv X pins σ H s' → Q (.bool o.isSome) s') :
    wpAny (model X.prog X.w) A (compareOp .In u (.ref a)) Q E s := by
  rcases g with ⟨kvs, k, e, ey, l⟩ | ⟨kvs, k, b, e, ey, eb, l⟩
  · subst ey
    obtain ⟨z, hd, vs, rel, dd⟩ := dk_rd I.hok e
    refine wpAny_in_of (kV_is ry) hd dd.mapOf ?_
    rw [← (rel.val k).isSome_eq, ← l]
    exact h _ (I.tok _)
  · subst ey
    cases (show u = Value.ref b from ry)
    obtain ⟨z, hd, xs, rel, dd⟩ := dt_rd I.hok e
    refine wpAny_in_heap (tupleKind_room_in1 hu) (key_of I.hok eb) hd dd ?_
    have q := (rel.val k).isSome_eq
    rw [Option.isSome_map] at q
    rw [← q, ← l]
    exact h _ (I.tok _)
theorem d_write {h' : Heap} {t' : Nat} {ob : HO} (I : Inv X pins σ H s) (mu : Mut (H a)) (hs : Heap.SameBut a s.heap h') (he : ∃ q, h'.get? a = some q) (new : ObjOk X.prog X.w (upd H a ob) h' a ob) :
    Inv X pins σ (upd H a ob) { s with heap := h', toks := t' } :=
  I.write (x := a) (e := a) mu (.inl rfl) (fun b q hb z => (hs.2 b hb).trans z) he new
theorem dk_new {P : Program} {w : World} {H' : Hp} {h' : Heap} {kvs : List (Key × V)} {vs : List (Key × Value)} (z : kvs.length ≤ sizeLine) (hd : (a == sysModules) = false) (rel : KV kvs vs) (dd : h'.DictOf (mixKind P w) a vs) :
    ObjOk P w H' h' a (.dK kvs) := ⟨z, hd, vs, rel, dd⟩
theorem d_setItem {H' : Hp} {Q : Unit → Shared → Prop} (hu : A.units + 1 < cLine) (I : Inv X pins σ H s) (g : DPut H a y v H') (ry : RelV y u) (rv : RelV v r) (h : ∀ s', Inv X pins σ H' s' → Q () s') :
    wpAny (model X.prog X.w) A (setItem (.ref a) u r) Q E s := by
  rcases g with ⟨kvs, k, e, ey, l, eH⟩ | ⟨kvs, k, b, e, ey, eb, l, eH⟩
  · subst ey eH
    obtain ⟨z, hd, vs, rel, dd⟩ := dk_of I.hok e
    have hz : vs.length ≤ sizeLine := by rw [← rel.length]; exact z
    have hl : (putK kvs k v).length ≤ sizeLine := by have := length_putK kvs k v; omega
    refine wpAny_setItem_pairs (hsz := hz) (kV_is ry) dd fun h' dd' hs => h _ ?_
    have he : ∃ q, h'.get? a = some q := let ⟨q, _, _, hq, _⟩ := dd'; ⟨q, hq⟩
    exact d_write I (by rw [e]; exact True.intro) hs he (dk_new hl hd (rel.put k rv) dd')
  · subst ey eH
    cases (show u = Value.ref b from ry)
    obtain ⟨z, hd, xs, rel, dd⟩ := dt_of I.hok e
    have hz : xs.length ≤ sizeLine := by rw [← Paired.length rel]; exact z
    have hl : (putK kvs k v).length ≤ sizeLine := by have := length_putK kvs k v; omega
    refine wpAny_setItem_heap (hsz := hz) (tupleKind_room_in1 hu) (key_of I.hok eb) dd fun h' dd' hs => h _ ?_
    obtain ⟨q, es, ep, hq, h2, h3, h4, _, h5⟩ := dd'
    refine d_write I (by rw [e]; exact True.intro) hs ⟨q, hq⟩ ⟨hl, hd, _, (rel.put k eb rv).keeps fun c ys ec => ?_, q, es, ep, hq, h2, h3, h4, h5⟩
    rw [upd_ne (ne_of ec e (fun z => nomatch z))]
    exact ec
end
section
variable {X : Cx} {pins : List (Addr × Obj)} {σ : St} {H : Hp} {s : Shared} {a : Addr} {kvs : List (Key × V)} {k : Key} {u : Value} {A : Around} {E : Value → Shared → Prop}
end
def NoSl (i : Expr) : Prop := ∀ ov iv, subscripted i false ov iv = operate [ov, iv] (getItem ov iv)
theorem subD_of {prog : Program} {w : World} {A : Around} {E : Value → Shared → Prop} {s : Shared} {env : Env} {value slice : Expr} {pos : Pos} {T id : String} {Q : Value → Shared → Prop}
    (hl : typeLookup (.type T) "__getitem__" = pure (some (.builtin id))) (hs : NoSl slice)
    (h : wpAny (model prog w) A (eval value env) (fun o s₁ => wpAny (model prog w) A (eval slice env) (fun i s₂ => s₂.TypeIs o T ∧ wpAny (model prog w) A (getItem o i) Q E s₂) E s₁) E s) :
    wpAny (model prog w) A (eval (.Subscript value slice pos) env) Q E s := by
  refine Subscript_ (wpAny_mono h (fun o s₁ h₁ => wpAny_mono h₁ (fun i s₂ h₂ => ?_) fun _ _ x => x) fun _ _ x => x)
  obtain ⟨hT, h₂⟩ := h₂
  unfold subscriptTail
  refine wpAny_bind ?_
  rw [getitemInPython_of_ne hT.not_modules]
  refine wpAny_bind (wpAny_specialOf hT hl ?_)
  have fin : wpAny (model prog w) A (subscripted slice false o i) (fun r s₃ => wpAny (model prog w) A (letTemporaryGo value o r >>= fun _ => pure r) Q E s₃) E s₂ := by
    rw [hs o i]
    exact wpAny_operating (wpAny_mono h₂ (fun r s₃ h₃ => wpAny_bind (wpAny_letTemporaryGo (wpAny_pure h₃))) fun _ _ x => x)
  first
    | exact wpAny_pure (wpAny_bind fin)
    | exact wpAny_bind (wpAny_pure (wpAny_bind fin))
    | exact wpAny_bind fin
theorem dict_typeIs {X : Cx} {pins : List (Addr × Obj)} {σ : St} {H : Hp} {s : Shared} {a : Addr} {y : V} {o : Option V} (I : Inv X pins σ H s) (g : DGet H a y o) : s.TypeIs (.ref a) "dict" := by
  rcases g with ⟨kvs, k, e, _, _⟩ | ⟨kvs, k, b, e, _, _, _⟩
  · obtain ⟨_, _, vs, _, dd⟩ := dk_rd I.hok e
    exact dd.typeIs
  · obtain ⟨_, _, xs, _, dd⟩ := dt_rd I.hok e
    exact dd.typeIs
def tDGet (td ty : TE) : TE := fun σ H Q => td σ H fun x H1 => ty σ H1 fun y H2 => ∃ a v, x = .ref a ∧ DGet H2 a y (some v) ∧ Q v H2
def tDIn (ty td : TE) : TE := fun σ H Q => ty σ H fun y H1 => td σ H1 fun x H2 => ∃ a o, x = .ref a ∧ DGet H2 a y o ∧ Q (.bl o.isSome) H2
def sDPut (td ty tv : TE) : TS := fun D σ H => tv σ H fun v H1 => td σ H1 fun x H2 => ty σ H2 fun y H3 => ∃ a H4, x = .ref a ∧ DPut H3 a y v H4 ∧ D.nx σ H4
section
variable {X : Cx} {o i e value : Expr} {pos pos' tpos : Pos} {td ty tv : TE}
theorem pe_dget (hu : X.A.units + 1 < cLine) (ho : PE X o td) (hi : PE X i ty) (hs : NoSl i) : PE X (.Subscript o i pos) (tDGet td ty) := by
  intro pins s σ H Q I h
  refine subD_of PySem.F.slot_dict_getitem.lookup hs (thn (ho pins s σ H _ I h) fun u s1 ⟨x, H1, I1, rx, q1⟩ => thn (hi pins s1 σ H1 _ I1 q1) fun iv s2 ⟨y, H2, I2, ry, a, v, ex, g, q2⟩ => ?_)
  subst ex
  obtain rfl : u = Value.ref a := rx
  exact ⟨dict_typeIs I2 g, d_getItem hu I2 g ry fun w' s3 I3 rw' => ⟨v, H2, I3, rw', q2⟩⟩
theorem pc_din (hu : X.A.units + 1 < cLine) (hi : PE X i ty) (ho : PE X o td) : PC X .In i o (tDIn ty td) := by
  intro pins s σ H Q I h
  refine thn (hi pins s σ H _ I h) fun iv s1 ⟨y, H1, I1, ry, q1⟩ => thn (ho pins s1 σ H1 _ I1 q1) fun u s2 ⟨x, H2, I2, rx, a, ov, ex, g, q2⟩ => ?_
  subst ex
  obtain rfl : u = Value.ref a := rx
  exact d_in hu I2 g ry fun s3 I3 => ⟨.bl ov.isSome, H2, I3, rfl, q2⟩
theorem ps_dput (hu : X.A.units + 1 < cLine) (ho : PE X o td) (hi : PE X i ty) (hv : PE X value tv) (hs : swapsWith value (some (.Subscript o i pos')) pos.line X.env = pure false) :
    PS X (.Assign [.Subscript o i pos'] value pos) (sDPut td ty tv) := by
  intro pins s σ H D I h
  refine wpAny_Assign_Subscript (thn (hv pins s σ H _ I h) fun r s1 ⟨v, H1, I1, rv, q1⟩ => thn (ho pins s1 σ H1 _ I1 q1) fun u s2 ⟨x, H2, I2, rx, q2⟩ => thn (hi pins s2 σ H2 _ I2 q2) fun iv s3 ⟨y, H3, I3, ry, a, H4, ex, g, q3⟩ => ?_) hs
  subst ex
  obtain rfl : u = Value.ref a := rx
  exact d_setItem hu I3 g ry rv fun s4 I4 => ⟨σ, H4, I4, q3⟩
end
theorem dk_empty {P : Program} {w : World} {H : Hp} (h : Heap) (hb : sysModules < h.objs.size) : ObjOk P w H (h.push { cls := .type "dict", data := .dict #[] }) h.objs.size (.dK []) :=
  ⟨Nat.zero_le _, beq_eq_false_iff_ne.mpr (Ne.symm (Nat.ne_of_lt hb)), [], .nil, Heap.DictOf.new h⟩
def tDNewK : TE := fun _ H Q => ∀ p, H p = none → Q (.ref p) (upd H p (.dK []))
section
variable {X : Cx} {pos : Pos}
theorem pe_dnewK : PE X (.Dict [] [] pos) tDNewK := fun pins s σ H Q I h =>
  wpAny_Dict_empty ⟨.ref s.heap.objs.size, _, I.laid (a := s.heap.objs.size) (o := .dK []) (t' := s.toks) (fun _ _ q => Heap.get?_push_of_some _ q) (Nat.le_refl _) (dk_empty s.heap I.big), rfl, h _ (I.hok.fresh (Nat.le_refl _))⟩
end
structure M1 (X : Cx) (o : Expr) (m : Str) (apos : Pos) (e : Expr) (cpos : Pos) : Prop where
  base : attributeBase o m X.env (eval o X.env) = eval o X.env
  few : ((backTo cpos (starEach [e] X.env)).all (fun x => !x.1) && (backToKw cpos (keywordEach [] X.env)).all (fun x => x.1.isSome)
    && decide (([e] : List Expr).length + ([] : List Keyword).length + (if ([] : List Keyword).isEmpty then 0 else 1) < 30)) = true
  line : (apos.endLine == cpos.line) = true
  trees : backTo cpos (starEach [e] X.env) = [(false, eval e X.env)]
structure M2 (X : Cx) (o : Expr) (m : Str) (apos : Pos) (e f : Expr) (cpos : Pos) : Prop where
  base : attributeBase o m X.env (eval o X.env) = eval o X.env
  few : ((backTo cpos (starEach [e, f] X.env)).all (fun x => !x.1) && (backToKw cpos (keywordEach [] X.env)).all (fun x => x.1.isSome)
    && decide (([e, f] : List Expr).length + ([] : List Keyword).length + (if ([] : List Keyword).isEmpty then 0 else 1) < 30)) = true
  line : (apos.endLine == cpos.line) = true
  trees : backTo cpos (starEach [e, f] X.env) = [(false, eval e X.env), (false, eval f X.env)]
section
variable {X : Cx} {pins : List (Addr × Obj)} {σ : St} {H : Hp} {s : Shared} {a : Addr} {y d : V} {u r : Value} {o : Option V} {A : Around} {E : Value → Shared → Prop}
end
section
variable {X : Cx} {o e f : Expr} {apos cpos : Pos} {td ty tx : TE}
end
section
variable {X : Cx} {pins : List (Addr × Obj)} {σ : St} {H : Hp} {s : Shared} {a : Addr} {kvs : List (Key × V)} {A : Around} {E : Value → Shared → Prop}
end
section
variable {X : Cx} {pins : List (Addr × Obj)} {σ : St} {H : Hp} {s : Shared} {a : Addr} {y : V} {u : Value} {A : Around} {E : Value → Shared → Prop}
end
end L2
namespace Att
open PySem PySem.W PySem.Calls PyProof.Rows
theorem ints_of_wellAll {P : Params} {h : Heap} : ∀ (ns : List Int) (vs : List Value), WellAll P h vs (ns.map WData.int) → IntsAre vs ns := by
  intro ns
  induction ns with
  | nil =>
    intro vs w
    rw [List.map_nil] at w
    cases w
    exact .nil
  | cons n ns ih =>
    intro vs w
    rw [List.map_cons] at w
    cases w with
    | cons a b =>
      cases a
      exact .cons _ _ (ih _ b)
theorem script_of {l : OpenLaw} {n : Nat} (hn : l.most = some n) {P : Params} {h : Heap} {args : List WData} {vals : List Value}
    (hpre : l.row.toRowW.claim.pre args = true) (hwl : WellAll P h vals args) :
    ∃ a vs ns, vals = [Value.ref a] ∧ args = [WData.list (ns.map WData.int)] ∧ h.get? a = some { cls := .type "list", data := .seq vs.toArray } ∧ IntsAre vs ns ∧ ns.length ≤ n := by
  have hsh : WShape.hasAll [] args [.list .int] = true := (pre_splitW hpre).1
  have hc : l.pre.holds [] { args := args } = true := (pre_splitW hpre).2
  obtain ⟨d, r, rfl, h1, h2⟩ := hasAllW_cons hsh
  obtain rfl := hasAllW_nil h2
  obtain ⟨xs, rfl, h3⟩ := hasW_list h1
  obtain ⟨ns, rfl⟩ := items_int h3
  have hlen : ns.length ≤ n := by
    unfold OpenLaw.pre at hc
    have h4 : (WTm.not (.lt (.lit (.int (n : Int))) (.len (.arg 0)))).holds [] { args := [.list (ns.map .int)] } = true := by
      have h4 := (holds_andW hc).1
      rw [hn] at h4
      exact h4
    have h5 := condW_of h4 (w_not (w_lt w_lit (w_len_list (w_arg rfl))))
    rw [List.length_map] at h5
    refine Nat.le_of_not_lt fun q => ?_
    have q' : (n : Int) < ((ns.length : Nat) : Int) := by omega
    first
      | (rw [decide_eq_true q'] at h5; exact absurd h5 (by decide))
      | (simp at h5; omega)
  cases hwl with
  | cons w1 w2 =>
    cases w2
    cases w1 with
    | list ho hall => exact ⟨_, _, ns, rfl, rfl, ho, ints_of_wellAll ns _ hall, hlen⟩
theorem post_true (l : OpenLaw) (args : List WData) : l.row.toRowW.claim.post args (.bool true) args = true :=
  postW_of (r := l.row.toRowW) (X := (true == true))
    (show WShape.has [] (.bool true) .bool = true by first | rfl | decide | simp [WShape.has, WShape.arms, WShape.armsAll])
    (show (WTm.eq .res (.lit (.bool true))).value [] { args := args, res := some (.bool true), after := args } = some (.bool (true == true)) from w_eq_bool (w_res rfl) w_lit) rfl
section
variable {prog : Program} {w : World} {A : Around} {E : Value → Shared → Prop} {s : Shared} {K : Frag}
end
end Att
namespace L2
open PySem PySem.Spec PyProof.Rows
theorem vals_ints : ∀ {vs : List Value} {ns : List Int}, IntsAre vs ns → Vals (ns.map V.int) vs
  | _, _, .nil => .nil
  | _, _, .cons n t h => .cons ⟨t, rfl⟩ (vals_ints h)
end L2
namespace L2
open PySem PySem.Spec PyProof.Rows
end L2
namespace L2
open PySem PySem.Spec PyProof.Rows
def defArgs (s : Stmt) : Arguments := match s with
  | .FunctionDef _ a _ _ _ _ _ _ _ _ => a
  | _ => { posonlyargs := [], args := [], vararg := none, kwonlyargs := [], kw_defaults := [], kwarg := none, defaults := [] }
def defBody (s : Stmt) : List Stmt := match s with
  | .FunctionDef _ _ b _ _ _ _ _ _ _ => b
  | _ => []
def defScope (s : Stmt) : Scope := match s with
  | .FunctionDef _ _ _ _ _ _ sc _ _ _ => sc
  | _ => { kind := .function, names := [], isGenerator := false, isCoroutine := false }
abbrev CX0 : CXT := fun _ _ _ _ _ _ => False
abbrev E0 : XK := fun _ _ _ => False
theorem pass0 {X : Cx} : Passes CX0 X E0 := fun _ _ _ _ _ _ _ h => h.elim
structure Fun (K : PySem.W.Frag) (x qual : Str) (st : Stmt) (f : Addr) (fd : FuncData) : Prop where
  ex : ∃ (oc : Value) (od : Option Addr) (kV doc pm : Value) (an : Option Addr) (cdv ct : Value) (osl : Array (Option Value)),
    fd = PySem.W.fnOf x qual (defArgs st) (defBody st) (defScope st) .none kV doc pm an cdv ct ∧ K.lookup f = some ⟨oc, od, .func fd, osl⟩ ∧ PySem.W.codeIn K cdv qual = true
  kp : PySem.W.keepIn K (.ref f) = true
section
variable {P : Program} {w : World} {K : PySem.W.Frag} {mg : Str → Option Value} {base : Heap}
theorem Fun.ok {x qual : Str} {st : Stmt} {f : Addr} {fd : FuncData} {N ps : List Str} {k : Nat} {sp : Sp} (F : Fun K x qual st f fd) (S : FnScope N ps (defScope st)) (len : ∀ vs H Q E, sp vs H Q E → vs.length = ps.length)
    (hbody : ∀ (cdv : Value) (A : Around) (outer : List Env) (s : Shared) (H : Hp) (vs : List V) (Q : VK) (E : XK), Room k (A.deeper (envOfC qual (defScope st) s.heap.objs.size f cdv)) → sp vs H Q E →
      ∃ t, PSs (cxOf CX0 P w K mg base N qual (defScope st) f cdv A outer s H E).nox (defBody st) t ∧ t { nx := fun _ H' => Q .non H', rt := Q } (start N vs) H) : FnOk P w K mg base CX0 (k + 1) f fd ps sp := by
  obtain ⟨oc, od, kV, doc, pm, an, cdv, ct, osl, rfl, lk, hcd⟩ := F.ex
  refine fn_of lk hcd S len fun A outer s H vs Q E hr hsp => ?_
  obtain ⟨t, h, q⟩ := hbody cdv A outer s H vs Q E hr hsp
  exact ⟨t, h.nox, q⟩
theorem Fun.binds {x qual : Str} {st : Stmt} {f : Addr} {fd : FuncData} {ps : List Str} (F : Fun K x qual st f fd)
    (h : ∀ (kV doc pm : Value) (an : Option Addr) (cdv ct : Value) (us : List Value), us.length = ps.length → bindArgs (PySem.W.fnOf x qual (defArgs st) (defBody st) (defScope st) .none kV doc pm an cdv ct) ⟨us, []⟩ = pure (ps.zip us)) : Binds K fd ps [] := by
  obtain ⟨oc, od, kV, doc, pm, an, cdv, ct, osl, rfl, lk, hcd⟩ := F.ex
  exact .all (h kV doc pm an cdv ct)
theorem fun_mk {x qual : Str} {st : Stmt} {f : Addr} {oc : Value} {od an : Option Addr} {osl : Array (Option Value)} {kV doc pm cdv ct : Value} (l : K.lookup f = some ⟨oc, od, .func (PySem.W.fnOf x qual (defArgs st) (defBody st) (defScope st) .none kV doc pm an cdv ct), osl⟩)
    (c : PySem.W.codeIn K cdv qual = true) (k : PySem.W.keepIn K (.ref f) = true) : Fun K x qual st f (PySem.W.fnOf x qual (defArgs st) (defBody st) (defScope st) .none kV doc pm an cdv ct) := ⟨⟨oc, od, kV, doc, pm, an, cdv, ct, osl, rfl, l, c⟩, k⟩
end
theorem hu_of {A : Around} {k : Nat} (hr : Room k A) : A.units + 1 < cLine := Nat.lt_of_le_of_lt (Nat.add_le_add_left (by decide : 1 ≤ 64) _) hr.units
theorem small1000 {n : Nat} (h : n ≤ 1000) : n < sizeLine := Nat.lt_of_le_of_lt h (by decide)
section
variable {X : Cx}
theorem pv (i : Nat) {x : Str} {pos : Pos} (hN : X.N[i]? = some x := by rfl) (hv : Vis X.env.scope x := by first | exact Or.inl rfl | exact Or.inr (Or.inl rfl) | exact Or.inr (Or.inr rfl)) (hd : (x == ("__debug__" : Str)) = false := by decide)
    (hcd : (x == ("__classdict__" : Str)) = false := by decide) : PE X (.Name x pos) (tVar i) := pe_var hN hv hd hcd
end
theorem iteF {A B : Prop} (h : B) : if false = true then A else B := by
  rw [if_neg Bool.false_ne_true]
  exact h
theorem iteT {A B : Prop} (h : A) : if true = true then A else B := by
  rw [if_pos rfl]
  exact h
theorem ite2 {c A B : Prop} [Decidable c] (h1 : c → A) (h2 : ¬ c → B) : if c then A else B := by
  by_cases h : c
  · rw [if_pos h]
    exact h1 h
  · rw [if_neg h]
    exact h2 h
theorem iteNS {c A B : Prop} [Decidable c] (hc : c) (h : B) : if (!decide c) = true then A else B := by
  rw [decide_eq_true hc]
  exact iteF h
def Same (H H' : Hp) : Prop := ∀ b o, H b = some o → H' b = some o
theorem Same.refl (H : Hp) : Same H H := fun _ _ h => h
theorem Same.trans {H H1 H2 : Hp} (a : Same H H1) (b : Same H1 H2) : Same H H2 := fun c o h => b c o (a c o h)
theorem Same.free {H H' : Hp} (e : Same H H') {l : Addr} (h : H' l = Option.none) : H l = Option.none := by
  cases q : H l with
  | none => rfl
  | some o =>
    rw [e l o q] at h
    cases h
theorem Same.seq {K : PySem.W.Frag} {H H' : Hp} {a : Addr} {xs : List V} (e : Same H H') (h : SqL K H a xs) : SqL K H' a xs := by
  rcases h with (h | ⟨o, h⟩) | h
  · exact .inl (.inl (e _ _ h))
  · exact .inl (.inr ⟨o, e _ _ h⟩)
  · exact .inr h
end L2
namespace L2
open PySem PySem.Spec PyProof.Rows
section
variable {X : Cx}
end
section
variable {κ : Type} [DecidableEq κ]
end
end L2
set_option maxHeartbeats 4000000
namespace Tn
def upto (n : Nat) : List Int := (List.range n).map fun (i : Nat) => (i : Int)
theorem upto_len (n : Nat) : (upto n).length = n := by simp [upto]
theorem mem_upto {n : Nat} {w : Int} : w ∈ upto n ↔ 0 ≤ w ∧ w < n := by
  unfold upto
  simp only [List.mem_map, List.mem_range]
  constructor
  · rintro ⟨i, h, rfl⟩; omega
  · rintro ⟨h1, h2⟩; exact ⟨w.toNat, by omega, by omega⟩
theorem upto_nodup (n : Nat) : (upto n).Nodup := by
  unfold upto
  rw [List.Nodup, List.pairwise_map]
  exact (List.nodup_range (n := n)).imp (fun h e => h (by omega))
theorem upto_get {n i : Nat} (h : i < n) : (upto n)[i]? = some (i : Int) := by
  simp [upto, h]
theorem perm_of_sub : ∀ {l m : List Int}, l.Nodup → (∀ a ∈ l, a ∈ m) → m.length ≤ l.length → l.Perm m
  | [], m, _, _, hl => by
    have : m = [] := List.length_eq_zero_iff.mp (by simpa using hl)
    rw [this]
  | a :: l, m, nd, hs, hl => by
    obtain ⟨h1, h2⟩ := List.nodup_cons.mp nd
    have ha : a ∈ m := hs a List.mem_cons_self
    have pm := List.perm_cons_erase ha
    have ih := perm_of_sub (l := l) (m := m.erase a) h2 (fun b hb => by
      have hne : b ≠ a := fun e => h1 (e ▸ hb)
      exact (List.mem_erase_of_ne hne).mpr (hs b (List.mem_cons_of_mem _ hb))) (by
      have := pm.length_eq
      simp only [List.length_cons] at this hl
      omega)
    exact (ih.cons a).trans pm.symm
structure IsOrd (ns : List Int) : Prop where
  perm : ns.Perm (upto ns.length)
theorem IsOrd.nodup {ns : List Int} (h : IsOrd ns) : ns.Nodup := h.perm.nodup_iff.mpr (upto_nodup _)
theorem IsOrd.mem {ns : List Int} (h : IsOrd ns) {w : Int} : w ∈ ns ↔ 0 ≤ w ∧ w < ns.length := h.perm.mem_iff.trans mem_upto
theorem IsOrd.of_perm {ns : List Int} {n : Nat} (h : ns.Perm (upto n)) : IsOrd ns ∧ ns.length = n := by
  have e : ns.length = n := by rw [h.length_eq, upto_len]
  exact ⟨⟨by rw [e]; exact h⟩, e⟩
end Tn
namespace Tn
open PySem
theorem rv_owner : Manifest.owners.lookup (String.ofList ['d', 'e', 's', 'r', 'e', 'v', 'e', 'r'].reverse) = some Manifest.sig_reversed := by kernel_rfl
theorem rv_slot_next : Slot "reversed" "__next__" "reversed.__next__" :=
  .of (owner := "reversed") (n := "__next__") (by rw [typeLookup_type, builtinLookup_eq_fast]; kernel_rfl) (by decide +kernel) (by decide +kernel) (by decide +kernel)
      (by first | exact .inl (by decide +kernel) | exact .inr (by decide +kernel)) (by rw [isSubtype_type]; kernel_rfl)
theorem rv_slot_iter : Slot "reversed" "__iter__" "reversed.__iter__" :=
  .of (owner := "reversed") (n := "__iter__") (by rw [typeLookup_type, builtinLookup_eq_fast]; kernel_rfl) (by decide +kernel) (by decide +kernel) (by decide +kernel)
      (by first | exact .inl (by decide +kernel) | exact .inr (by decide +kernel)) (by rw [isSubtype_type]; kernel_rfl)
theorem rv_slot_hint : Slot "reversed" "__length_hint__" "reversed.__length_hint__" :=
  .of (owner := "reversed") (n := "__length_hint__") (by rw [typeLookup_type, builtinLookup_eq_fast]; kernel_rfl) (by decide +kernel) (by decide +kernel) (by decide +kernel)
      (by first | exact .inl (by decide +kernel) | exact .inr (by decide +kernel)) (by rw [isSubtype_type]; kernel_rfl)
theorem rv_slot_init : Slot "reversed" "__init__" "object.__init__" :=
  .of (owner := "object") (n := "__init__") (by rw [typeLookup_type, builtinLookup_eq_fast]; kernel_rfl) (by decide +kernel) (by decide +kernel) (by decide +kernel)
      (by first | exact .inl (by decide +kernel) | exact .inr (by decide +kernel)) (by rw [isSubtype_type]; kernel_rfl)
theorem rv_entry_next : entryFor table "reversed.__next__" = some Builtin.«reversed.__next__» := entryFor_of_tree (by kernel_rfl)
theorem rv_entry_hint : entryFor table "reversed.__length_hint__" = some Builtin.«reversed.__length_hint__» := entryFor_of_tree (by kernel_rfl)
theorem rv_entry_iter : entryFor table "reversed.__iter__" = some Builtin.«dict_keyiterator.__iter__» :=
  entryFor_alias (id' := "dict_keyiterator.__iter__") (by kernel_rfl) (by first | rfl | decide +kernel | (unfold String.splitOn; simp +decide [String.splitOnAux])) (by decide +kernel) (by kernel_rfl)
theorem rv_args_next (a : Value) : argsOk "reversed.__next__" ⟨[a], []⟩ := by
  unfold argsOk; rw [signature?_of (id := "reversed.__next__") (n := ['_', '_', 't', 'x', 'e', 'n', '_', '_']) (o := ['d', 'e', 's', 'r', 'e', 'v', 'e', 'r']) (by kernel_rfl) rv_owner]; kernel_rfl
theorem rv_args_iter (a : Value) : argsOk "reversed.__iter__" ⟨[a], []⟩ := by
  unfold argsOk; rw [signature?_of (id := "reversed.__iter__") (n := ['_', '_', 'r', 'e', 't', 'i', '_', '_']) (o := ['d', 'e', 's', 'r', 'e', 'v', 'e', 'r']) (by kernel_rfl) rv_owner]; kernel_rfl
theorem rv_args_hint (a : Value) : argsOk "reversed.__length_hint__" ⟨[a], []⟩ := by
  unfold argsOk; rw [signature?_of (id := "reversed.__length_hint__") (n := ['_', '_', 't', 'n', 'i', 'h', '_', 'h', 't', 'g', 'n', 'e', 'l', '_', '_']) (o := ['d', 'e', 's', 'r', 'e', 'v', 'e', 'r']) (by kernel_rfl) rv_owner]; kernel_rfl
theorem rv_mro : mroOf (.type "reversed") = pure [.type "reversed", .type "object"] := by rw [mroOf_type]; kernel_rfl
theorem rv_new : typeLookup (.type "reversed") "__new__" = pure (some (.builtin "reversed.__new__")) := by rw [typeLookup_type, builtinLookup_eq_fast]; kernel_rfl
theorem rv_called : TypeCalled "reversed" "reversed.__new__" "object.__init__" :=
  ⟨by decide +kernel, by decide +kernel, ⟨_, _, rv_mro⟩, madeBy_type rv_mro rv_new (by decide +kernel), by decide +kernel, by rw [isSubtype_type]; kernel_rfl, rv_slot_init⟩
theorem rv_typeCall (a : Value) : checkTypeCall "reversed" ⟨[a], []⟩ = pure () := by kernel_rfl
theorem rv_newCall (a : Value) : checkBuiltinCall "reversed.__new__" ⟨[.type "reversed", a], []⟩ = pure () := by kernel_rfl
theorem rv_entry_new : entryFor table "reversed.__new__" = some Builtin.«reversed.__new__» := entryFor_of_tree (by kernel_rfl)
theorem rv_sub : isSubtype (.type "reversed") (.type "reversed") = pure true := by rw [isSubtype_type]; kernel_rfl
theorem tup_norev : typeLookup (.type "tuple") "__reversed__" = pure none := by rw [typeLookup_type, builtinLookup_eq_fast]; kernel_rfl
theorem rv_nolen : typeLookup (.type "reversed") "__len__" = pure none := by rw [typeLookup_type, builtinLookup_eq_fast]; kernel_rfl
theorem tup_dict : isSubtype (.type "tuple") (.type "dict") = pure false := by rw [isSubtype_type]; kernel_rfl
def rvO (tp : Addr) (i : Int) : Obj := { cls := .type "reversed", data := .fields #[.ref tp, rawInt i] }
theorem code_fn {prog : Program} {w : World} {A : Around} {E : Value → Shared → Prop} {s : Shared} {id : String} {b : Builtin} {args : List Value} {Q : Value → Shared → Prop} (hk : builtinKind id = none) (hp : plainId id = true) (hb : entryFor table id = some b) (ha : argsOk id ⟨args, []⟩)
    (hc : wpAny (model prog w) A.in1 (b ⟨args, []⟩) (fun fin s' => ∃ v, fin = .done (.ret v) ∧ Q v s') E s) : codeAny (model prog w) A (.call (.builtin id) ⟨args, []⟩) (fun r s' => match r with | .ok (.ret v) => Q v s' | .ok _ => False | .error e => E e s') s := by
  refine codeAny_call_builtin hp hb ?_
  have fin := wpAny_mono hc (Q' := fun fin s' => match fin with
      | .done f => (match (Except.ok f : Result) with | .ok (.ret v) => Q v s' | .ok _ => False | .error e => E e s') | .again c' => c'.quiet = true ∧ codeAny (model prog w) A c' (fun r s' => match r with | .ok (.ret v) => Q v s' | .ok _ => False | .error e => E e s') s')
      (fun fin s' h' => by obtain ⟨v, rfl, hv⟩ := h'; exact hv) fun _ _ h' => h'
  simp only [checkBuiltinCall, hk]
  cases hsig : Manifest.signature? id with
  | none => exact wpAny_pure fin
  | some sig =>
    simp only [argsOk, hsig] at ha
    have h2 : Bind.checkArgs id sig ⟨args, []⟩ = pure () := ha
    show wpAny _ A.in1 (Bind.checkArgs id sig ⟨args, []⟩) _ _ s
    rw [h2]
    exact wpAny_pure fin
theorem lenT_code {prog : Program} {w : World} {A : Around} {E : Value → Shared → Prop} {s : Shared} {tp : Addr} {xs : Array Value} {Q : Value → Shared → Prop} (ht : s.heap.IsTuple tp xs) (hz : (xs.size : Int) < 2 ^ 63)
    (h : Q (.int xs.size (s.toks + 1)) { s with toks := s.toks + 1 + 1 }) : codeAny (model prog w) A (.call (.builtin "len") ⟨[.ref tp], []⟩) (fun r s' => match r with | .ok (.ret v) => Q v s' | .ok _ => False | .error e => E e s') s := by
  refine code_fn kind_len plain_len entry_len (args_len1 _) ?_
  unfold Builtin.«len»
  refine wpAny_bind (m := oneArg "len" _) (wpAny_pure ?_); refine wpAny_bind (m := callSpecial? (.ref tp) (Str.ofString "__len__")) (wpAny_callSpecial?_slot (name := Str.ofString "__len__") ht.typeIs F.slot_tuple_len (wpAny_call_entry F.slot_tuple_len ht.typeIs F.entry_tuple_len ?_ (F.args_tuple_len_1 _)))
  show wpAny _ _ (do retInt (← Builtin.Tuple.tupleItemsOf (.ref tp)).size) _ _ _
  refine wpAny_bind (PyProof.Rows.tupleItemsOf_ (show PyProof.Rows.IsTup s.heap tp xs from ht) ?_); refine wpAny_bind (wpAny_mkInt (wpAny_pure ⟨_, rfl, ?_⟩))
  refine wpAny_bind (wpAny_holding (wpAny_pure ?_)); refine wpAny_bind (wpAny_letGo ?_)
  show wpAny _ _ (if ((xs.size : Nat) : Int) < 0 then _ else _) _ _ _
  rw [if_neg (by omega)]
  show wpAny _ _ (if ((xs.size : Nat) : Int) ≥ 2 ^ 63 then _ else _) _ _ _
  rw [if_neg (by omega)]; exact wpAny_bind (wpAny_mkInt (wpAny_pure ⟨_, rfl, h⟩))
theorem rv_meets (tp : Addr) (xs : Array Value) (n : Nat) (dd : Option Addr) (sl : Array (Option Value)) (hz : (xs.size : Int) < 2 ^ 63) :
    Meets (Builtin.«reversed.__new__» ⟨[.type "reversed", .ref tp], []⟩) (fun _ R s => s.heap.get? tp = some { cls := .type "tuple", dict := dd, data := .seq xs n, slots := sl } ∧
      ∀ tk, R (.ok (.ret (.ref s.heap.objs.size))) { s with heap := s.heap.push (rvO tp ((xs.size : Int) - 1)), toks := tk }) := by
  intro prog w A R s h
  obtain ⟨hp, g, d, tk, os⟩ := s; obtain ⟨hl, h⟩ := h
  have h1 := rv_sub
  have hT : Shared.TypeIs ⟨hp, g, d, tk, os⟩ (.ref tp) "tuple" := ⟨_, hl, rfl⟩
  have h2 := tup_norev
  have h3 := tup_dict
  have h4 := F.slot_tuple_getitem.lookup
  wp_walk using AutoSeq1.wpAny_loadPart' hl, wpAny_typeOf hT
  refine lenT_code (show Heap.IsTuple _ tp xs from ⟨_, hl, rfl, n, rfl⟩) hz ?_
  wp_walk
  exact h _
theorem call_rev {prog : Program} {w : World} {A : Around} {E : Value → Shared → Prop} {s : Shared} {tp : Addr} {xs : Array Value} {Q : Value → Shared → Prop} (ht : s.heap.IsTuple tp xs) (hz : (xs.size : Int) < 2 ^ 63)
    (h : ∀ tk, Q (.ref s.heap.objs.size) { s with heap := s.heap.push (rvO tp ((xs.size : Int) - 1)), toks := tk }) : wpAny (model prog w) A (call (.type "reversed") [.ref tp]) Q E s := by
  obtain ⟨⟨c, dct, dt, sl⟩, q1, qc, n, qd⟩ := ht
  replace qc : c = .type "tuple" := qc
  replace qd : dt = .seq xs n := qd
  subst qc qd
  exact callType_new rv_called (by decide) (rv_typeCall _) (rv_newCall _) (fun obj => F.args_object_init_2 obj _) rv_entry_new (rv_meets tp xs n dct sl hz) ⟨q1, fun tk => ⟨⟨_, Heap.get?_push_size _ rfl, rfl⟩, h tk⟩⟩
def IsRv (h : Heap) (a tp : Addr) (i : Int) : Prop := ∃ o, h.get? a = some o ∧ o.cls = .type "reversed" ∧ o.data = .fields #[.ref tp, rawInt i]
theorem IsRv.ty {s : Shared} {a tp : Addr} {i : Int} (x : IsRv s.heap a tp i) : s.TypeIs (.ref a) "reversed" := let ⟨o, ho, hc, _⟩ := x; ⟨o, ho, hc⟩
theorem IsRv.at {h h' : Heap} {a tp : Addr} {i : Int} (x : IsRv h a tp i) (e : ∀ o, h.get? a = some o → h'.get? a = some o) : IsRv h' a tp i := let ⟨o, ho, r⟩ := x; ⟨o, e _ ho, r⟩
section
variable {prog : Program} {w : World} {A : Around} {E : Value → Shared → Prop} {s : Shared}
theorem rv_item {a tp : Addr} {k : Nat} {xs : Array Value} {v : Value} {Q : Option Value → Shared → Prop} (p1 : IsRv s.heap a tp (k : Int)) (p2 : s.heap.IsTuple tp xs) (hv : xs[k]? = some v) (hz : (xs.size : Int) < 2 ^ 63)
    (hQ : ∀ g tk, IsRv g a tp ((k : Int) - 1) → Heap.SameBut a s.heap g → Q (some v) { s with heap := g, toks := tk }) : wpAny (model prog w) A (pyNext (.ref a)) Q E s := by
  obtain ⟨o1, g1, c1, d1⟩ := id p1
  have hk : k < xs.size := (Array.getElem?_eq_some_iff.mp hv).1
  unfold pyNext
  refine wpAny_bind (wpAny_attempt (wpAny_callSpecial?_slot (name := Str.ofString "__next__") p1.ty rv_slot_next (wpAny_call_entry rv_slot_next p1.ty rv_entry_next ?_ (rv_args_next _))))
  unfold Builtin.«reversed.__next__»
  refine wpAny_bind (wpAny_of_eq (a := (Value.ref a, [])) rfl ?_); try dsimp only
  refine wpAny_bind (wpAny_field g1 d1 (x := .ref tp) rfl ?_); refine wpAny_bind (wpAny_field g1 d1 (x := rawInt (k : Int)) rfl ?_)
  show wpAny _ _ (if (k : Int) < 0 then _ else _) _ _ _
  rw [if_neg (by omega)]
  refine wpAny_bind (wpAny_specialOf p2.typeIs F.slot_tuple_getitem.lookup ?_)
  show wpAny _ _ (mkInt (k : Int) >>= _) _ _ _
  refine wpAny_bind (wpAny_mkInt ?_)
  have hsi : seqIndex? (k : Int) xs.size = some k := by
    rw [PySem.seqIndex_of (by omega) (by omega)]; simp
  refine wpAny_bind (wpAny_attempt (PyProof.Rows.getItem_tuple (show PyProof.Rows.IsTup _ tp xs from p2) (by omega) (by omega) hsi hv ?_))
  refine wpAny_bind (wpAny_field g1 d1 (x := rawInt (k : Int)) rfl ?_); show wpAny _ _ (setField (.ref a) 1 (rawInt ((k : Int) - 1)) >>= _) _ _ _
  refine wpAny_bind (wpAny_setField g1 d1 (by simp) ?_)
  refine wpAny_pure ⟨v, rfl, wpAny_pure (hQ _ _ ?_ (Heap.SameBut.update ..))⟩
  exact ⟨_, Heap.get?_update_self _ g1 (Obj.isFreed_of_fields (Obj.data_mapFields d1 _)), (Obj.cls_mapFields ..).trans c1, by
      rw [Obj.data_mapFields d1]; simp⟩
theorem rv_end {a tp : Addr} {Q : Option Value → Shared → Prop} (hh : A.handled = none) (p1 : IsRv s.heap a tp (-1))
    (hQ : ∀ g, Heap.ExtBut a s.heap g → Q none { s with heap := g }) : wpAny (model prog w) A (pyNext (.ref a)) Q E s := by
  obtain ⟨o1, g1, c1, d1⟩ := id p1
  unfold pyNext
  refine wpAny_bind (wpAny_attempt (wpAny_callSpecial?_slot (name := Str.ofString "__next__") p1.ty rv_slot_next (wpAny_call_entry rv_slot_next p1.ty rv_entry_next ?_ (rv_args_next _))))
  unfold Builtin.«reversed.__next__»
  refine wpAny_bind (wpAny_of_eq (a := (Value.ref a, [])) rfl ?_); try dsimp only
  refine wpAny_bind (wpAny_field g1 d1 (x := .ref tp) rfl ?_); refine wpAny_bind (wpAny_field g1 d1 (x := rawInt (-1)) rfl ?_)
  show wpAny _ _ (if (-1 : Int) < 0 then _ else _) _ _ _
  rw [if_pos (by decide)]
  refine wpAny_bind (wpAny_rule ?_)
  refine wpAny_bind ?_
  show wpAny _ _ (setField (.ref a) 1 (rawInt (-1)) >>= fun _ => setField (.ref a) 0 .none) _ _ _
  refine wpAny_bind (wpAny_setField g1 d1 (by simp) ?_)
  have g2 := Heap.get?_update_self (Obj.mapFields fun x => x.setIfInBounds 1 (rawInt (-1))) g1 (Obj.isFreed_of_fields (Obj.data_mapFields d1 _))
  have d2 := Obj.data_mapFields d1 (fun x => x.setIfInBounds 1 (rawInt (-1)))
  refine wpAny_setField g2 d2 (by simp) ?_
  refine wpAny_bind ?_; show wpAny _ _ (newExc (.type "StopIteration") [] >>= fun e => raiseNew e) _ _ _
  refine wpAny_bind ?_; simp only [newExc, newTuple]
  refine wpAny_bind (wpAny_newObj_type ?_ (by size_fits)); refine wpAny_bind (m := firstArgMember _ _) (wpAny_of_eq (a := Value.none) (by first | rfl | (simp only [firstArgMember]; rfl)) ?_)
  refine wpAny_newObj_type ?_ (by size_fits); simp only [raiseNew]
  refine wpAny_bind (wpAny_handled ?_); first | rw [show A.in1.handled = none from hh] | rw [hh]
  refine wpAny_bind (wpAny_pure (wpAny_throw ?_)); refine wpAny_bind (wpAny_isInstance (T := "StopIteration") (b := true) ⟨_, Heap.get?_push_size _ rfl, rfl⟩ isSubtype_stop ?_)
  exact wpAny_pure (hQ _ ((((Heap.SameBut.update ..).trans (Heap.SameBut.update ..)).extBut.push _).push _))
theorem rv_self {a tp : Addr} {i : Int} {Q : Value → Shared → Prop} (p1 : IsRv s.heap a tp i) (h : Q (.ref a) s) : wpAny (model prog w) A (pyIter (.ref a)) Q E s := by
  refine wpAny_pyIter_slot p1.ty rv_slot_iter (wpAny_call_entry rv_slot_iter p1.ty rv_entry_iter ?_ (rv_args_iter _))
  show wpAny _ _ (ret (.ref a)) _ _ s
  exact wpAny_pure ⟨_, rfl, "reversed", _, p1.ty, rv_slot_next.lookup, h⟩
theorem rv_walks (hh : A.handled = none) (a tp : Addr) (hne : tp ≠ a) (xs : Array Value) (hz : (xs.size : Int) < 2 ^ 63) :
    Walks prog w A a [a, tp] [a] xs.size (fun i v => xs[xs.size - 1 - i]? = some v) (fun i h => i ≤ xs.size ∧ IsRv h a tp ((xs.size : Int) - 1 - (i : Int)) ∧ h.IsTuple tp xs) where
  sub := fun b hb => by simp at hb; simp [hb]
  frame := fun _ _ _ x hk => ⟨x.1, x.2.1.at fun o e => hk a (by simp) o e, let ⟨o, ho, r⟩ := x.2.2; ⟨o, hk tp (by simp) o ho, r⟩⟩
  item := fun i s Q E hi x hQ => by
    have e : (xs.size : Int) - 1 - (i : Int) = ((xs.size - 1 - i : Nat) : Int) := by omega
    have p := x.2.1
    rw [e] at p
    have hx : xs[xs.size - 1 - i]? = some (xs[xs.size - 1 - i]'(by omega)) := Array.getElem?_eq_getElem (by omega)
    refine rv_item p x.2.2 hx hz fun g tk p' hs' => ?_
    have e2 : ((xs.size - 1 - i : Nat) : Int) - 1 = (xs.size : Int) - 1 - ((i + 1 : Nat) : Int) := by omega
    rw [e2] at p'
    exact hQ _ g tk hx ⟨hi, p', x.2.2.extBut hs'.extBut hne⟩ fun b o hb eo => hs'.extBut b o (fun h => hb (by simp [h])) eo
  done := fun s Q E x hQ => by
    have e : (xs.size : Int) - 1 - (xs.size : Int) = -1 := by omega
    have p := x.2.1
    rw [e] at p
    exact rv_end hh p fun g he' => hQ g s.toks fun b o hb eo => he' b o (fun h => hb (by simp [h])) eo
  self := fun _ _ _ _ x hQ => rv_self x.2.1 hQ
theorem rv_hint {a tp : Addr} {xs : Array Value} {Q : Bool → Shared → Prop} (p1 : IsRv s.heap a tp ((xs.size : Int) - 1)) (p2 : s.heap.IsTuple tp xs) (hz : xs.size ≤ sizeLine)
    (hQ : ∀ tk, s.toks ≤ tk → Q (decide (xs.size ≠ 0)) { s with toks := tk }) : wpAny (model prog w) A (Builtin.List.listLengthHint (.ref a)) Q E s := by
  obtain ⟨o1, g1, c1, d1⟩ := id p1
  have hl0 : (sizeLine : Nat) < 2 ^ 63 := by rw [sizeLine_eq]; decide
  have hl63 : (xs.size : Int) < 2 ^ 63 := by omega
  unfold Builtin.List.listLengthHint
  refine wpAny_bind (wpAny_specialOf p1.ty rv_nolen ?_)
  show wpAny _ _ (specialOf (Value.ref a) (Str.ofString "__length_hint__") >>= _) _ _ _
  refine wpAny_bind (wpAny_specialOf p1.ty rv_slot_hint.lookup ?_)
  try dsimp only
  rw [show splitId "reversed.__length_hint__" = some ("reversed", "__length_hint__") from by decide +kernel]
  refine wpAny_bind (wpAny_isInstance (T := "reversed") (b := true) p1.ty rv_sub ?_)
  rw [if_neg (by decide)]
  rw [if_neg (by decide +kernel)]
  refine wpAny_bind (wpAny_rule ?_)
  refine wpAny_bind (wpAny_of_eq (rv_slot_hint.bind _) ?_)
  try dsimp only
  refine wpAny_bind (wpAny_attempt (wpAny_call_entry rv_slot_hint p1.ty rv_entry_hint ?_ (rv_args_hint _)))
  unfold Builtin.«reversed.__length_hint__»
  refine wpAny_bind (wpAny_of_eq (a := Value.ref a) (by first | rfl | kernel_rfl) ?_)
  refine wpAny_bind (wpAny_field g1 d1 (x := .ref tp) rfl ?_)
  rw [if_neg (show ¬ ((Value.ref tp == Value.none) = true) from Bool.false_ne_true)]
  refine wpAny_bind (wpAny_call (lenT_code p2 hl63 ?_))
  refine wpAny_bind (wpAny_of_eq (a := some (xs.size : Int)) (by first | rfl | kernel_rfl) ?_)
  try dsimp only
  refine wpAny_bind (wpAny_field g1 d1 (x := rawInt ((xs.size : Int) - 1)) rfl ?_)
  show wpAny _ _ (if (xs.size : Int) < (xs.size : Int) - 1 + 1 then _ else _) _ _ _
  rw [if_neg (by omega)]
  refine wpAny_bind (wpAny_mkInt (wpAny_pure ⟨_, rfl, ?_⟩))
  try dsimp only
  refine wpAny_bind (wpAny_of_eq (a := some ((xs.size : Int) - 1 + 1)) (by first | rfl | kernel_rfl) ?_)
  try dsimp only
  have e1 : (xs.size : Int) - 1 + 1 = (xs.size : Int) := by omega
  rw [e1]
  rw [if_neg (by
    have : Builtin.List.listFitsIndex (xs.size : Int) = true := by
      unfold Builtin.List.listFitsIndex
      simp only [decide_eq_true_eq, Bool.and_eq_true]
      omega
    rw [this]; decide)]
  rw [if_neg (by omega)]
  rw [if_neg (by
    unfold Builtin.List.listTooLong
    rw [Int.toNat_natCast]
    simp only [decide_eq_true_eq]
    omega)]
  refine wpAny_pure ?_
  have e2 : ((xs.size : Int) != 0) = decide (xs.size ≠ 0) := by
    rw [Bool.eq_iff_iff]; simp
  rw [e2]
  exact hQ _ (by show s.toks ≤ s.toks + 1 + 1 + 1; omega)
theorem rv_collect {a tp : Addr} {xs : Array Value} {Q : List Value → Shared → Prop} (hh : A.handled = none) (hne : tp ≠ a) (p1 : IsRv s.heap a tp ((xs.size : Int) - 1)) (p2 : s.heap.IsTuple tp xs) (hz : xs.size ≤ sizeLine)
    (hQ : ∀ s' acc, Moved [a] (fun x y => y = x) s s' → ItemsOf (fun i v => xs[xs.size - 1 - i]? = some v) acc xs.size → Q acc.toList s') : wpAny (model prog w) A (collect (.ref a)) Q E s := by
  have hl0 : (sizeLine : Nat) < 2 ^ 63 := by rw [sizeLine_eq]; decide
  have W := (rv_walks (prog := prog) (w := w) (A := A.in1) hh a tp hne xs (by omega)).toS
  have W2 : WalksS prog w A.in1.in1 a [a, tp] [a] (fun x y => y = x) xs.size _ _ := (rv_walks (prog := prog) (w := w) (A := A.in1.in1) hh a tp hne xs (by omega)).toS
  have la : a < s.heap.objs.size := by obtain ⟨o, e, _⟩ := p1; exact Heap.lt_size e
  have lt : tp < s.heap.objs.size := by obtain ⟨o, e, _⟩ := p2; exact Heap.lt_size e
  have hSf : s.heap.objs.size ∉ [a, tp] := fun hm => by
    rcases List.mem_cons.mp hm with z | z
    · exact absurd la (by rw [z]; exact Nat.lt_irrefl _)
    · have z : s.heap.objs.size = tp := by simpa using z
      exact absurd lt (by rw [z]; exact Nat.lt_irrefl _)
  unfold collect
  refine wpAny_bind (wpAny_runValue (codeAny_builtin F.entry_proto_collect ?_))
  rw [Around.under_plainId F.plain_proto_collect _]
  show wpAny _ A.in1 (newList [] >>= fun l => again (.builtin "list.__iadd__" ⟨[l, .ref a], []⟩)) _ _ s
  refine wpAny_bind (wpAny_newObj_type ?_)
  refine wpAny_pure ⟨plainId_quiet F.plain_list_iadd _, codeAny_builtin F.entry_list_iadd ?_⟩
  rw [Around.under_plainId F.plain_list_iadd _]
  show wpAny _ A.in1 (Builtin.List.listExtendWith (.ref s.heap.objs.size) (.ref a) (.ref s.heap.objs.size)) _ _ _
  have kp : ∀ b o, s.heap.get? b = some o → (s.heap.push { cls := .type "list", data := .seq ([] : List Value).toArray }).get? b = some o := fun b o e => Heap.get?_push_of_some _ e
  have q1 : IsRv (s.heap.push { cls := .type "list", data := .seq ([] : List Value).toArray }) a tp ((xs.size : Int) - 1) := p1.at fun o e => kp a o e
  have q2 : (s.heap.push { cls := .type "list", data := .seq ([] : List Value).toArray }).IsTuple tp xs := let ⟨o, ho, r⟩ := p2; ⟨o, kp tp o ho, r⟩
  have hS1 : (s.heap.push { cls := .type "list", data := .seq ([] : List Value).toArray }).get? s.heap.objs.size = some { cls := .type "list", data := .seq ([] : List Value).toArray } := Heap.get?_push_size _ rfl
  generalize hP : s.heap.push { cls := .type "list", data := .seq ([] : List Value).toArray } = HP at kp q1 q2 hS1 ⊢
  unfold Builtin.List.listExtendWith
  refine wpAny_bind (wpAny_typeOf (s := { s with heap := HP }) (IsRv.ty (s := { s with heap := HP }) q1) ?_)
  have b1 : Builtin.List.listSameRef (.ref s.heap.objs.size) (.ref a) = false := by simp [Builtin.List.listSameRef, Nat.ne_of_gt la]
  have b2 : (Value.type "reversed" == Value.type "list") = false := by decide
  have b3 : (Value.type "reversed" == Value.type "tuple") = false := by decide
  simp only [b1, b2, b3, Bool.or_false, Bool.false_eq_true, if_false]
  refine wpAny_bind (rv_self (s := { s with heap := HP }) q1 ?_)
  refine wpAny_bind (wpAny_holding (rv_hint (s := { s with heap := HP }) q1 q2 hz fun tk htk => ?_))
  have fin : ∀ (h' : Heap) (c : Nat), (∀ b o, s.heap.get? b = some o → h'.get? b = some o) → h'.get? s.heap.objs.size = some { cls := .type "list", dict := none, data := .seq #[] c, slots := #[] } → IsRv h' a tp ((xs.size : Int) - 1) → h'.IsTuple tp xs →
      codeAny (model prog w) A (.builtin "list.extend.loop" ⟨[.ref s.heap.objs.size, .ref a, .ref s.heap.objs.size], []⟩) (fun r s' => match r with
        | .ok (.ret v) => wpAny (model prog w) A (match v with
            | .ref a => do
              match (← load a).data with
              | .seq xs _ => pure xs.toList
              | _ => unsupported "internal:collect"
            | _ => unsupported "internal:collect") Q E s'
        | .ok _ => False | .error e => E e s') { s with heap := h', toks := tk } := fun h' c kp' hS r1 r2 => by
    refine codeAny_extend_loopS W hz _ hSf _ xs.size 0 { s with heap := h', toks := tk } #[] c rfl (Nat.zero_le _) ⟨Nat.zero_le _, by simpa using r1, r2⟩ hS (ItemsOf.nil _) fun s' acc' c' hm hS' hacc => ?_
    show wpAny _ A (load s.heap.objs.size >>= _) _ _ s'
    refine wpAny_bind (wpAny_load hS' ?_)
    refine wpAny_pure (hQ s' acc' ⟨fun b o hb e => hm.heap b o ?_ (kp' b o e), hm.gens, hm.drawn, hm.os, ?_⟩ hacc)
    · intro hm2
      rcases List.mem_cons.mp hm2 with z | z
      · subst z; exact absurd (Heap.lt_size e) (Nat.lt_irrefl _)
      · exact hb z
    · exact Nat.le_trans htk hm.toks
  have ht1 : HP.get? s.heap.objs.size = some { cls := .type "list", dict := none, data := .seq #[] 0, slots := #[] } := hS1
  have kp0 : ∀ b o, s.heap.get? b = some o → HP.get? b = some o := kp
  by_cases h0 : xs.size = 0
  · rw [show decide (xs.size ≠ 0) = false by simp [h0]]
    rw [if_neg (by decide +kernel)]
    exact wpAny_pure ⟨plainId_quiet F.plain_extend_loop _, fin HP 0 kp0 ht1 q1 q2⟩
  · rw [show decide (xs.size ≠ 0) = true by simp [h0], if_pos (by rfl)]
    refine wpAny_bind (wpAny_rule ?_)
    refine wpAny_bind ?_
    show wpAny _ A.in1 (updateSeq s.heap.objs.size (·.push .none) >>= fun _ => updateSeq s.heap.objs.size (·.pop)) _ _ _
    refine wpAny_bind (wpAny_updateSeq ht1 rfl ?_)
    have hS2 := Heap.get?_update_self (Obj.mapSeq (·.push Value.none)) ht1 rfl
    refine wpAny_updateSeq hS2 rfl ?_
    have hS3 := Heap.get?_update_self (Obj.mapSeq (·.pop)) hS2 rfl
    have oth : ∀ b o, b ≠ s.heap.objs.size → HP.get? b = some o → ((HP.update s.heap.objs.size (Obj.mapSeq (·.push Value.none))).update s.heap.objs.size (Obj.mapSeq (·.pop))).get? b = some o :=
      fun b o hb e => (Heap.get?_update_other _ _ (Ne.symm hb)).trans ((Heap.get?_update_other _ _ (Ne.symm hb)).trans e)
    refine wpAny_pure ⟨plainId_quiet F.plain_extend_loop _, fin _ _ (fun b o e => oth b o (Nat.ne_of_lt (Heap.lt_size e)) (kp0 b o e)) hS3 (q1.at fun o e => oth a o (Nat.ne_of_lt la) e) (let ⟨o, ho, r⟩ := q2; ⟨o, oth tp o (Nat.ne_of_lt lt) ho, r⟩)⟩
theorem rv_tuple_new {a tp : Addr} {xs : Array Value} {Q : Value → Shared → Prop} (hh : A.handled = none) (hne : tp ≠ a) (p1 : IsRv s.heap a tp ((xs.size : Int) - 1)) (p2 : s.heap.IsTuple tp xs) (hz : xs.size ≤ sizeLine)
    (hQ : ∀ s' acc, Moved [a] (fun x y => y = x) s s' → ItemsOf (fun i v => xs[xs.size - 1 - i]? = some v) acc xs.size → Q (.ref s'.heap.objs.size) { s' with heap := s'.heap.push { cls := .type "tuple", data := .seq acc } }) :
    codeAny (model prog w) A (.call (.builtin "tuple.__new__") ⟨[.type "tuple", .ref a], []⟩) (wants Q E) s := by
  refine codeAny_of_tree ?_
  show wpAny _ A.in1 (do checkBuiltinCall "tuple.__new__" ⟨[.type "tuple", .ref a], []⟩; again (.builtin "tuple.__new__" ⟨[.type "tuple", .ref a], []⟩)) _ _ s
  refine wpAny_bind (wpAny_of_eq (F.newCall_tuple_1 _) (wpAny_pure ⟨plainId_quiet F.plain_tuple_new _, codeAny_builtin F.entry_tuple_new ?_⟩)); rw [Around.under_plainId F.plain_tuple_new _]
  have e1 := sub_tuple_self
  have e2 := init_tuple_lookup
  have e3 := madeHere_tuple
  have e4 := p1.ty
  wp_walk using wpAny_typeOf e4, rv_collect (A := A.in1) hh hne p1 p2 hz
  intro s' acc hm hacc
  show wpAny _ _ (Builtin.Tuple.tupleExact acc.toList.toArray >>= fun v => ret v) _ _ _
  unfold Builtin.Tuple.tupleExact; refine wpAny_bind (wpAny_newObj_type ?_ (by show acc.toList.toArray.size ≤ sizeLine; simp only [Array.toArray_toList]; rw [hacc.1]; exact hz))
  refine wpAny_pure ?_
  rw [show acc.toList.toArray = acc by simp]
  exact hQ s' acc hm hacc
theorem call_tuple_rv {a tp : Addr} {xs : Array Value} {Q : Value → Shared → Prop} (hh : A.handled = none) (hne : tp ≠ a) (p1 : IsRv s.heap a tp ((xs.size : Int) - 1)) (p2 : s.heap.IsTuple tp xs) (hz : xs.size ≤ sizeLine)
    (hQ : ∀ s' acc, Moved [a] (fun x y => y = x) s s' → ItemsOf (fun i v => xs[xs.size - 1 - i]? = some v) acc xs.size → Q (.ref s'.heap.objs.size) { s' with heap := s'.heap.push { cls := .type "tuple", data := .seq acc } }) :
    wpAny (model prog w) A (call (.type "tuple") [.ref a]) Q E s := by
  refine callType_codes (Q₁ := fun obj s₁ => s₁.TypeIs obj "tuple" ∧ Q obj s₁) F.called_tuple (F.typeCall_tuple_1 _) F.entry_object_init
      (rv_tuple_new (A := A.in1) hh hne p1 p2 hz fun s' acc hm hacc => ⟨⟨_, Heap.get?_push_size _ rfl, rfl⟩, hQ s' acc hm hacc⟩) fun obj s₁ h₁ => ?_
  exact ⟨h₁.1, F.args_object_init_2 obj _, object_init_meets F.called_tuple.init.lookup F.called_tuple.made (by decide) prog w A.in1 _ s₁ ⟨h₁.1, rfl, h₁.2⟩⟩
end
end Tn
namespace Tn
open PySem
end Tn
namespace L2
open PySem PySem.Spec PyProof.Rows
section
variable {X : Cx}
theorem kit_same (K : PySem.W.Frag) (n : String) : PySem.W.kitOne K (.type n) (.type n) = some true := by
  unfold PySem.W.kitOne
  rw [if_pos (by simp)]
theorem kit_int_bool (K : PySem.W.Frag) : PySem.W.kitOne K (.type "int") (.type "bool") = some false := by
  unfold PySem.W.kitOne
  rw [if_neg (by decide +kernel)]
  show (if PySem.W.kitMeta "bool" = true then PySem.W.subIn K (.type "int") (.type "bool") else none) = some false
  rw [if_pos (by decide +kernel)]
  show (fastBuiltinMro "int").map (·.contains (.type "bool")) = some false
  decide +kernel
theorem call_isi : CallR X (.builtin "isinstance") (fun xs H Q => ∃ x t n b, xs = [x, .ty n] ∧ TyOf X.K H x t ∧ PySem.W.kitOne X.K t (.type n) = some b ∧ Q (.bl b) H) := by
  intro pins s σ H xs us Q I r h
  obtain ⟨x, t, n, b, rfl, ty, e, q⟩ := h
  obtain ⟨u, w', rfl, rx, ry⟩ := vals2 r
  obtain rfl : w' = Value.type n := ry
  exact isinst_ok I rx ty e fun tk => ⟨.bl b, H, I.tok _, rfl, q⟩
def eqVs : List V → List V → Bool
  | [], [] => true
  | x :: xs, y :: ys => eqV x y && eqVs xs ys
  | _, _ => false
theorem eqVs_all : ∀ (xs ys : List V) (k : Nat) (e : Nat → Bool), (∀ i x y, xs[i]? = some x → ys[i]? = some y → e (k + i) = eqV x y) →
    (((List.range' k (min xs.length ys.length)).all e && (xs.length == ys.length)) = eqVs xs ys)
  | [], [], _, _, _ => by simp [eqVs]
  | [], _ :: _, _, _, _ => by simp [eqVs]
  | _ :: _, [], _, _, _ => by simp [eqVs]
  | x :: xs, y :: ys, k, e, h => by
    have h0 := h 0 x y rfl rfl
    have ih := eqVs_all xs ys (k + 1) e (fun i a b ha hb => by
      have := h (i + 1) a b ha hb
      rw [show k + 1 + i = k + (i + 1) by omega]; exact this)
    have hm : min (x :: xs).length (y :: ys).length = min xs.length ys.length + 1 := by simp only [List.length_cons]; omega
    rw [hm, List.range'_succ, List.all_cons]
    have hl : ((x :: xs).length == (y :: ys).length) = (xs.length == ys.length) := by
      rw [Bool.eq_iff_iff]; simp
    rw [hl]
    unfold eqVs
    rw [← ih, Bool.and_assoc, show e k = eqV x y from h0]
theorem eqVs_refl_ints (ns : List Int) : eqVs (ns.map V.int) (ns.map V.int) = true := by
  induction ns with
  | nil => rfl
  | cons n r ih => simp [eqVs, eqV, ih]
def rEqT (K : PySem.W.Frag) : R2 := fun x y H Q => ∃ a b xs ys, x = .ref a ∧ y = .ref b ∧ SqT K H a xs ∧ SqT K H b ys ∧ xs.all flatV = true ∧ ys.all flatV = true ∧ Q (.bl (eqVs xs ys)) H
theorem all_get {xs : List V} (h : xs.all flatV = true) {i : Nat} {x : V} (e : xs[i]? = some x) : flatV x = true := List.all_eq_true.mp h x (List.mem_of_getElem? e)
theorem op_eqT (hu : X.A.units < cLine) : OpR X (compareOp .Eq) (rEqT X.K) := by
  intro pins s σ H x y v u Q I rx ry h
  obtain ⟨a, b, xs, ys, rfl, rfl, ha, hb, fx, fy, q⟩ := h
  cases rx
  cases ry
  obtain ⟨its, r1, p1, _⟩ := I.tuple ha
  obtain ⟨its2, r2, p2, _⟩ := I.tuple hb
  have l1 := r1.length
  have l2 := r2.length
  have es : ∀ j : Nat, ∃ e : Bool, ∀ x y, xs[j]? = some x → ys[j]? = some y → e = eqV x y := fun j => by
    cases e1 : xs[j]? with
    | none => exact ⟨true, (fun _ _ h => nomatch h)⟩
    | some x =>
      cases e2 : ys[j]? with
      | none => exact ⟨true, (fun _ _ _ h => nomatch h)⟩
      | some y => exact ⟨eqV x y, fun x' y' h1 h2 => by cases h1; cases h2; rfl⟩
  have hch : ∃ e : Nat → Bool, ∀ (j : Nat) x y, xs[j]? = some x → ys[j]? = some y → e j = eqV x y := ⟨fun j => Classical.choose (es j), fun j => Classical.choose_spec (es j)⟩
  obtain ⟨e, he⟩ := hch
  refine SeqAt.eq_tupleAt (e := e) (show s.heap.IsTuple a its.toArray from p1) (show s.heap.IsTuple b its2.toArray from p2) hu (fun j h1 h2 => ?_) (fin_bl I q ?_)
  · have h1' : j < xs.length := by rw [l1]; simpa using h1
    have h2' : j < ys.length := by rw [l2]; simpa using h2
    obtain ⟨v1, e1, rv1⟩ := r1.get (i := j) (x := xs[j]) (by simp [h1'])
    obtain ⟨v2, e2, rv2⟩ := r2.get (i := j) (x := ys[j]) (by simp [h2'])
    have i1 : its.toArray[j] = v1 := by
      have := (List.getElem?_eq_some_iff.mp e1).2
      simpa using this
    have i2 : its2.toArray[j] = v2 := by
      have := (List.getElem?_eq_some_iff.mp e2).2
      simpa using this
    rw [i1, i2, he j xs[j] ys[j] (by simp [h1']) (by simp [h2'])]
    exact eqAt_V rv1 rv2 (all_get fx (i := j) (by simp [h1'])) (all_get fy (i := j) (by simp [h2']))
  · have := eqVs_all xs ys 0 e (fun i x y h1 h2 => by rw [Nat.zero_add]; exact he i x y h1 h2)
    rw [← this, List.size_toArray, List.size_toArray, ← l1, ← l2, List.range_eq_range']
theorem call_rangeO : CallR X (.type "range") (fun xs H Q => ∃ j : Int, xs = [.int j] ∧ ∀ p, H p = none → Q (.ref p) (upd H p (.rng 0 j))) := by
  intro pins s σ H xs us Q I r h
  obtain ⟨j, rfl, q⟩ := h
  obtain ⟨u, rfl, rx⟩ := vals1 r
  obtain ⟨t, rfl⟩ := rx
  refine call_range_1 ⟨.ref s.heap.objs.size, _, I.laid (fun b o e => Heap.get?_push_of_some _ e) (Nat.le_refl _) (show ObjOk X.prog X.w _ _ _ (.rng 0 j) from ⟨_, _, _, Heap.get?_push_size _ rfl⟩), rfl, q _ (I.hok.fresh (Nat.le_refl _))⟩
end
end L2
namespace Tn
open PySem PySem.Spec PyProof.Rows
section
variable {prog : Program} {w : World} {A : Around} {E : Value → Shared → Prop} {s : Shared}
theorem nextT_item {it tp : Addr} {k : Nat} {xs : Array Value} {v : Value} {Q : Value → Shared → Prop} (p1 : s.heap.IsTupleIter it tp k) (p2 : s.heap.IsTuple tp xs) (hv : xs[k]? = some v)
    (hQ : ∀ g, g.IsTupleIter it tp (k + 1) → Heap.SameBut it s.heap g → Q v { s with heap := g }) : wpAny (model prog w) A (Builtin.SmallTypes.nextOf (.ref it)) Q E s := by
  obtain ⟨o1, g1, c1, d1⟩ := id p1
  obtain ⟨o2, g2, _, n2, d2⟩ := p2
  unfold Builtin.SmallTypes.nextOf
  refine wpAny_bind (wpAny_callSpecial?_slot (name := Str.ofString "__next__") p1.typeIs F.slot_tuple_iterator_next (wpAny_call_entry F.slot_tuple_iterator_next p1.typeIs F.entry_tuple_iterator_next ?_ (F.args_tuple_iterator_next_1 _)))
  show wpAny _ _ (field (.ref it) 0 >>= _) _ _ _
  refine wpAny_bind (wpAny_field g1 d1 (x := .ref tp) rfl ?_)
  show wpAny _ _ (if (Value.ref tp == Value.none) = true then _ else _) _ _ _
  rw [if_neg (show ¬ ((Value.ref tp == Value.none) = true) from Bool.false_ne_true)]
  show wpAny _ _ (field (.ref it) 1 >>= _) _ _ _
  refine wpAny_bind (wpAny_field g1 d1 (x := .int k 0) rfl ?_)
  show wpAny _ _ (seqItems? (.ref tp) >>= _) _ _ _
  refine wpAny_bind (wpAny_seqItems g2 d2 ?_)
  simp only [Int.toNat_natCast, hv]
  refine wpAny_bind (wpAny_setField g1 d1 (by simp) (wpAny_pure ⟨v, rfl, wpAny_pure (hQ _ ?_ (Heap.SameBut.update ..))⟩))
  exact ⟨_, Heap.get?_update_self _ g1 (Obj.isFreed_of_fields (Obj.data_mapFields d1 _)), (Obj.cls_mapFields ..).trans c1, by
      rw [Obj.data_mapFields d1]; simp [rawInt]⟩
theorem nextT_end {it tp : Addr} {k : Nat} {xs : Array Value} {Q : Value → Shared → Prop} (hh : A.handled = none) (p1 : s.heap.IsTupleIter it tp k) (p2 : s.heap.IsTuple tp xs) (hv : xs[k]? = none)
    (hE : ∀ g e, Heap.ExtBut it s.heap g → (∃ o, g.get? e = some o ∧ o.cls = .type "StopIteration") → E (.ref e) { s with heap := g }) : wpAny (model prog w) A (Builtin.SmallTypes.nextOf (.ref it)) Q E s := by
  obtain ⟨o1, g1, c1, d1⟩ := id p1
  obtain ⟨o2, g2, _, n2, d2⟩ := p2
  unfold Builtin.SmallTypes.nextOf
  refine wpAny_bind (wpAny_callSpecial?_slot (name := Str.ofString "__next__") p1.typeIs F.slot_tuple_iterator_next (wpAny_call_entry F.slot_tuple_iterator_next p1.typeIs F.entry_tuple_iterator_next ?_ (F.args_tuple_iterator_next_1 _)))
  show wpAny _ _ (field (.ref it) 0 >>= _) _ _ _
  refine wpAny_bind (wpAny_field g1 d1 (x := .ref tp) rfl ?_)
  show wpAny _ _ (if (Value.ref tp == Value.none) = true then _ else _) _ _ _
  rw [if_neg (show ¬ ((Value.ref tp == Value.none) = true) from Bool.false_ne_true)]
  show wpAny _ _ (field (.ref it) 1 >>= _) _ _ _
  refine wpAny_bind (wpAny_field g1 d1 (x := .int k 0) rfl ?_)
  show wpAny _ _ (seqItems? (.ref tp) >>= _) _ _ _
  refine wpAny_bind (wpAny_seqItems g2 d2 ?_)
  simp only [Int.toNat_natCast, hv]
  refine wpAny_bind (wpAny_rule (wpAny_bind (wpAny_setField g1 d1 (by simp) ?_)))
  show wpAny _ _ (newExc (.type "StopIteration") [] >>= _) _ _ (_ : Shared)
  refine wpAny_bind ?_; simp only [newExc, newTuple]
  refine wpAny_bind (wpAny_newObj_type ?_ (by size_fits)); refine wpAny_bind (m := firstArgMember _ _) (wpAny_of_eq (a := Value.none) (by first | rfl | (simp only [firstArgMember]; rfl)) ?_)
  refine wpAny_newObj_type ?_ (by size_fits); simp only [raiseNew]
  refine wpAny_bind (wpAny_handled ?_); first | rw [show A.in1.handled = none from hh] | rw [hh]
  refine wpAny_bind (wpAny_pure (wpAny_throw ?_)); exact hE _ _ (((Heap.SameBut.update ..).extBut.push _).push _) ⟨_, Heap.get?_push_size _ rfl, rfl⟩
end
theorem tupIter_at {g g' : Heap} {it tp : Addr} {k : Nat} (p : g.IsTupleIter it tp k) (e : ∀ o, g.get? it = some o → g'.get? it = some o) : g'.IsTupleIter it tp k := let ⟨o, ho, r⟩ := p; ⟨o, e _ ho, r⟩
theorem tup_at {g g' : Heap} {tp : Addr} {xs : Array Value} (p : g.IsTuple tp xs) (e : ∀ o, g.get? tp = some o → g'.get? tp = some o) : g'.IsTuple tp xs := let ⟨o, ho, r⟩ := p; ⟨o, e _ ho, r⟩
end Tn
namespace L2
open PySem PySem.Spec PyProof.Rows
section
variable {X : Cx}
end
end L2
namespace L2
open PySem PySem.Spec PyProof.Rows
def cSt (σ : St) (js : List Nat) : St := none :: js.map fun j => (σ[j]?).getD none
def cxC (X : Cx) (scope : Scope) (cl : List (Str × Addr)) (C : Addr) (N : List Str) (fp : List Addr) (s : Shared) (H : Hp) : Cx where
  prog := X.prog
  w := X.w
  K := X.K
  mg := X.mg
  base := X.base
  A := X.A
  N := N
  s₀ := s
  H₀ := H
  env := compEnvC scope cl C X.env
  outer := X.stack
  stack := X.stack
  ex := fp
  fn := fun _ => false
  calm := X.calm
  pn := []
  xe := fun _ _ => False
theorem closure_go {env : Env} : ∀ (l : List (Str × NameKind)) (cs : List (Str × Addr)), (∀ y ∈ l, y.2 = .free → ∃ c, env.cells.lookup y.1 = some c) → (∀ y c, cs.lookup y = some c → env.cells.lookup y = some c) →
    ∃ cl, (forIn l cs fun x r => do
        let (name, kind) := x
        let mut cs := r
        if kind == .free then cs := (name, ← cellOf env name) :: cs
        pure (ForInStep.yield cs) : Sem (List (Str × Addr))) = pure cl ∧ (∀ y c, cl.lookup y = some c → env.cells.lookup y = some c) ∧ (∀ y ∈ l, y.2 = .free → ∃ c, cl.lookup y.1 = some c) ∧ (∀ y c, cs.lookup y = some c → ∃ d, cl.lookup y = some d)
  | [], cs, _, h2 => ⟨cs, rfl, h2, (fun _ h => nomatch h), fun y c e => ⟨c, e⟩⟩
  | (n, k) :: r, cs, h1, h2 => by
    rw [List.forIn_cons]
    by_cases hk : k = .free
    · subst hk
      obtain ⟨c, hc⟩ := h1 (n, .free) List.mem_cons_self rfl
      have hc' : cellOf env n = pure c := by unfold cellOf; rw [show env.cells.lookup n = some c from hc]
      obtain ⟨cl, e, p1, p2, p3⟩ := closure_go r ((n, c) :: cs) (fun y hy => h1 y (List.mem_cons_of_mem _ hy)) (fun y d hd => by
        rw [List.lookup_cons] at hd
        split at hd
        · rename_i hb
          have : y = n := by simpa using hb
          cases hd
          rw [this]; exact hc
        · exact h2 y d hd)
      refine ⟨cl, ?_, p1, fun y hy hf => ?_, fun y d hd => ?_⟩
      · simp only [beq_self_eq_true, if_true, hc', pure_bind]
        exact e
      · rcases List.mem_cons.mp hy with rfl | hy
        · exact p3 n c (by simp)
        · exact p2 y hy hf
      · by_cases hyn : y = n
        · subst hyn; exact p3 y c (by simp)
        · exact p3 y d (by rw [List.lookup_cons, show (y == n) = false by simpa using hyn]; exact hd)
    · have hb : (k == NameKind.free) = false := by simpa using hk
      obtain ⟨cl, e, p1, p2, p3⟩ := closure_go r cs (fun y hy => h1 y (List.mem_cons_of_mem _ hy)) h2
      refine ⟨cl, ?_, p1, fun y hy hf => ?_, p3⟩
      · simp only [hb, Bool.false_eq_true, if_false, pure_bind]
        exact e
      · rcases List.mem_cons.mp hy with rfl | hy
        · exact absurd hf hk
        · exact p2 y hy hf
theorem closure_of {env : Env} {scope : Scope} (h : ∀ y ∈ scope.names, y.2 = .free → ∃ c, env.cells.lookup y.1 = some c) :
    ∃ cl, closureFor scope env = pure cl ∧ (∀ y c, cl.lookup y = some c → env.cells.lookup y = some c) ∧ ∀ y ∈ scope.names, y.2 = .free → ∃ c, cl.lookup y.1 = some c := by
  obtain ⟨cl, e, p1, p2, _⟩ := closure_go scope.names [] h (fun _ _ q => by simp at q)
  refine ⟨cl, ?_, p1, p2⟩
  unfold closureFor
  have e' := congrArg (fun (t : Sem (List (Str × Addr))) => t >>= fun cs => pure cs) e
  simp only [pure_bind, bind_pure] at e' ⊢
  first | exact e' | simpa using e'
structure CScope (S scope : Scope) (x : Str) (N : List Str) (P : List Str) (js : List Nat) : Prop where
  kind : scope.kind = .function
  nocell : ∀ y ∈ scope.names, y.2 ≠ .cell
  loc : ∀ y ∈ scope.names, y.2 = .local → scope.names.lookup y.1 = some .local
  free : ∀ y ∈ scope.names, y.2 = .free → S.names.lookup y.1 = some .cell ∨ S.names.lookup y.1 = some .free
  own : scope.names.lookup x = some .local
  nd : N.Nodup
  hd : N = x :: (js.map fun j => (P[j]?).getD x)
  fr : ∀ j ∈ js, ∃ y, P[j]? = some y ∧ scope.names.lookup y = some .free
end L2
namespace L2
open PySem PySem.Spec PyProof.Rows
def relF (env : Env) (p : Str × NameKind) : Str × NameKind := if (p.2 == .free && env.scope.kind == .function && env.kindOf p.1 == some .cell) then (p.1, .cell) else (p.1, p.2)
theorem relF_fst (env : Env) (p : Str × NameKind) : (relF env p).1 = p.1 := by
  unfold relF; split <;> rfl
theorem relF_snd (env : Env) (p : Str × NameKind) : (relF env p).2 = p.2 ∨ (p.2 = .free ∧ (relF env p).2 = .cell) := by
  unfold relF
  split
  · rename_i h
    refine .inr ⟨?_, rfl⟩
    have h' : (p.2 == NameKind.free) = true := by
      cases e : (p.2 == NameKind.free) with
      | true => rfl
      | false => rw [e] at h; simp at h
    simpa using h'
  · exact .inl rfl
theorem look_rel {env : Env} : ∀ {names : List (Str × NameKind)} {x : Str} {k : NameKind}, (names.map (relF env)).lookup x = some k → ∃ k0, names.lookup x = some k0 ∧ (k = k0 ∨ (k0 = .free ∧ k = .cell))
  | [], _, _, h => by simp at h
  | p :: r, x, k, h => by
    rw [List.map_cons, show relF env p = ((relF env p).1, (relF env p).2) from rfl, List.lookup_cons, relF_fst] at h
    rw [show p = (p.1, p.2) from rfl, List.lookup_cons]
    split at h
    · refine ⟨p.2, rfl, ?_⟩
      have e : (relF env p).2 = k := Option.some.inj h
      rcases relF_snd env p with z | z
      · exact .inl (e.symm.trans z)
      · exact .inr ⟨z.1, e.symm.trans z.2⟩
    · exact look_rel h
theorem look_unrel {env : Env} : ∀ {names : List (Str × NameKind)} {x : Str} {k0 : NameKind}, names.lookup x = some k0 → ∃ k, (names.map (relF env)).lookup x = some k ∧ (k = k0 ∨ (k0 = .free ∧ k = .cell))
  | [], _, _, h => by simp at h
  | p :: r, x, k0, h => by
    rw [show p = (p.1, p.2) from rfl, List.lookup_cons] at h
    rw [List.map_cons, show relF env p = ((relF env p).1, (relF env p).2) from rfl, List.lookup_cons, relF_fst]
    split at h
    · have e : p.2 = k0 := Option.some.inj h
      refine ⟨_, rfl, ?_⟩
      rcases relF_snd env p with z | z
      · exact .inl (z.trans e)
      · exact .inr ⟨e.symm.trans z.1, z.2⟩
    · exact look_unrel h
section
variable {X : Cx} {pins : List (Addr × Obj)} {σ : St} {H : Hp} {s : Shared} {scope S : Scope} {cl : List (Str × Addr)} {C : Addr} {N : List Str} {fp : List Addr} {x : Str} {js : List Nat}
theorem cxC_ok (I : Inv X pins σ H s) (Sc : CScope S scope x N X.N js) (hC : s.heap.objs.size ≤ C) (h1 : ∀ y c, cl.lookup y = some c → X.env.cells.lookup y = some c)
    (h2 : ∀ y ∈ scope.names, y.2 = .free → ∃ c, cl.lookup y.1 = some c) (hfp : ∀ b ∈ fp, FpOk X pins H b) (hlt : ∀ b ∈ fp, b < s.heap.objs.size) : (cxC X scope cl C N fp s H).Ok where
  mod := I.ok.mod
  kind := Sc.kind
  glob := I.ok.glob
  blt := I.ok.blt
  above := hC
  inj := fun y z c e1 e2 => I.ok.inj y z c (h1 _ _ e1) (h1 _ _ e2)
  has := fun y hy => by
    have go : ∀ k, (scope.names.map (relF X.env)).lookup y = some k → (k = .cell ∨ k = .free) → ∃ c, cl.lookup y = some c := fun k e hk => by
      obtain ⟨k0, e0, hh⟩ := look_rel e
      have m := PySem.mem_of_lookup e0
      have hf : k0 = .free := by
        rcases hh with z | z
        · rcases hk with q | q
          · exact absurd (z.symm.trans q) (Sc.nocell _ m)
          · exact z.symm.trans q
        · exact z.1
      exact h2 (y, k0) m hf
    rcases hy with e | e
    · exact go _ e (.inl rfl)
    · exact go _ e (.inr rfl)
  cab := fun _ _ h => nomatch h
  hd := I.ok.hd
  frames := I.ok.frames
  stk := .inl rfl
  exf := fun b hb => ⟨Nat.ne_of_lt (Nat.lt_of_lt_of_le (hlt b hb) hC), fun y c e => (hfp b hb).2.2.2.2.1 y c (h1 _ _ e)⟩
  bs := fun b o e => I.bs b o e
  bsz := Nat.le_trans I.ok.bsz I.sz
  noex := fun b o e hb => by
    rcases (hfp b hb).2.2.2.1 with z | z
    · exact I.ok.noex b o e z
    · exact absurd (Nat.lt_of_lt_of_le (Heap.lt_size e) (Nat.le_trans I.ok.bsz z)) (Nat.lt_irrefl _)
  exfs := fun b hb hs => by
    rcases List.mem_cons.mp (I.stkSub b hs) with z | z
    · exact (hfp b hb).2.1 z
    · exact (hfp b hb).2.2.1 z
  funs := I.stack
  frf := I.stkFree
theorem cxC_inv (I : Inv X pins σ H s) (hS : X.env.scope = S) (Sc : CScope S scope x N X.N js) (hC : s.heap.objs.size ≤ C) (h1 : ∀ y c, cl.lookup y = some c → X.env.cells.lookup y = some c)
    (h2 : ∀ y ∈ scope.names, y.2 = .free → ∃ c, cl.lookup y.1 = some c) (hfp : ∀ b ∈ fp, FpOk X pins H b) (hlt : ∀ b ∈ fp, b < s.heap.objs.size)
    {h4 : Heap} {tk : Nat} {m : Str → Option Value} (hns : h4.Ns C m) (hk : ∀ b o, s.heap.get? b = some o → h4.get? b = some o) :
    Inv (cxC X scope cl C N fp s H) [] (cSt σ js) H { s with heap := h4, toks := tk } := by
  refine ⟨cxC_ok I Sc hC h1 h2 hfp hlt, rfl, I.bare, Un.kept hk, ⟨m, hns, fun i y v hi hv hvis => ?_⟩, fun y c e => ?_, I.hok.fresh hC, fun y c e => I.freeC y c (h1 _ _ e), fun p hp => absurd (show p ∈ ([] : List (Addr × Obj)) from hp) (by simp), I.hok.kept hk, ?_⟩
  · cases i with
    | zero => exact absurd (show some (none : Option V) = some (some v) from hv) (by simp)
    | succ i =>
      have hi : N[i + 1]? = some y := hi
      rw [Sc.hd, List.getElem?_cons_succ, List.getElem?_map] at hi
      have hv : (js.map fun j => (σ[j]?).getD none)[i]? = some (some v) := hv
      rw [List.getElem?_map] at hv
      cases ej : js[i]? with
      | none => rw [ej] at hv; cases hv
      | some j =>
        rw [ej] at hi hv
        have hv : (σ[j]?).getD none = some v := Option.some.inj hv
        have hi : (X.N[j]?).getD x = y := Option.some.inj hi
        obtain ⟨y', ey, hfr⟩ := Sc.fr j (List.mem_of_getElem? ej)
        rw [ey] at hi
        have hi : y' = y := hi
        subst hi
        have hσ : σ[j]? = some (some v) := by
          cases e : σ[j]? with
          | none => rw [e] at hv; cases hv
          | some o => rw [e] at hv; exact congrArg some hv
        have kX := Sc.free _ (PySem.mem_of_lookup hfr) rfl
        rw [← hS] at kX
        obtain ⟨mX, hnX, hl⟩ := I.loc
        obtain ⟨u, r, L⟩ := hl j y' v ey hσ (.inr kX)
        refine ⟨u, r, ?_⟩
        rcases L with ⟨kl, _⟩ | ⟨_, c, ec, z⟩
        · have kl : X.env.scope.names.lookup y' = some .local := kl
          rcases kX with q | q
          · rw [q] at kl; cases kl
          · rw [q] at kl; cases kl
        · obtain ⟨c', ec'⟩ := h2 _ (PySem.mem_of_lookup hfr) rfl
          have ecc : c' = c := Option.some.inj ((h1 _ _ ec').symm.trans ec)
          subst ecc
          obtain ⟨o, ho, hd⟩ := z
          refine .inr ⟨?_, c', ec', o, hk _ _ ho, hd⟩
          obtain ⟨k, e, hh⟩ := look_unrel (env := X.env) hfr
          rcases hh with q | q
          · exact .inr (show (scope.names.map (relF X.env)).lookup y' = some .free from q ▸ e)
          · exact .inl (show (scope.names.map (relF X.env)).lookup y' = some .cell from q.2 ▸ e)
  · obtain ⟨v, o, ho, hd⟩ := I.cell y c (h1 _ _ e)
    exact ⟨v, o, hk _ _ ho, hd⟩
  · show (cSt σ js).length = N.length
    rw [Sc.hd]
    simp [cSt]
def PTs (X : Cx) (ifs : List Expr) (t : TT) : Prop :=
  ∀ (pins : List (Addr × Obj)) (s : Shared) (σ : St) (H : Hp) (Q : Bool → Hp → Prop), Inv X pins σ H s → t σ H Q →
    wpAny (model X.prog X.w) X.A (forIn ifs true fun c r => if r = true then do let ok ← isTrue c X.env (eval c X.env); pure (ForInStep.yield ok) else pure (ForInStep.yield r)) (TP X pins σ Q) X.xe s
def tYes : TT := fun _ H Q => Q true H
theorem pts_nil : PTs X [] tYes := fun _ _ _ H _ I h => wpAny_tests_nil ⟨H, I, h⟩
theorem pts_one {c : Expr} {t : TT} (h : PT X c t) : PTs X [c] t := fun pins s σ H Q I hw => wpAny_tests_one (h pins s σ H Q I hw)
def CompW (J : It) (g : TG) (tc : TT) (te : TE) (js : List Nat) (σ : St) (H1 : Hp) (Q : VK) (D : Addr) : Prop :=
  ∃ W : Nat → Nat → List V → St → Hp → Prop, (∃ m, W 0 m [] (cSt σ js) (upd H1 D (.lst []))) ∧ ∀ i m acc σ' H', W i m acc σ' H' → H' D = some (.lst acc) ∧
    ((J.stop i H' ∧ Q (.ref D) H') ∨ (J.go i H' ∧ acc.length < sizeLine ∧ ∀ y H2, J.yld i H' y H2 → g y σ' H2 fun σ3 H3 => tc σ3 H3 fun b H4 =>
      if b = true then te σ3 H4 fun z H5 => H5 D = some (.lst acc) ∧ ∃ m', m' < m ∧ W (i + 1) m' (acc ++ [z]) σ3 (upd H5 D (.lst (acc ++ [z])))
      else ∃ m', m' < m ∧ W (i + 1) m' acc σ3 H4))
def tComp (wi : TI) (g : TG) (tc : TT) (te : TE) (js : List Nat) : TE := fun σ H Q => wi σ H fun J H1 => ∀ D, H1 D = none → CompW J g tc te js σ H1 Q D
theorem compLoop_go {prog : Program} {w : World} {A : Around} {R : Result → Shared → Prop} {s : Shared} {elt target iter : Expr} {ifs : List Expr} {pos : Pos} {it acc : Value} {env : Env} (I : Nat → Shared → Prop)
    (turn : ∀ n s, I n s → wpAny (model prog w) A (pyNext it) (fun r s₁ => match r with
      | none => R (.ok .next) s₁
      | some v => wpAny (model prog w) A (letOwnedTupleGo target it v) (fun _ s₂ => wpAny (model prog w) A (assign target env v) (fun _ s₂ =>
          wpAny (model prog w) A (forIn ifs true fun c r => if r = true then do let ok ← isTrue c env (eval c env); pure (ForInStep.yield ok) else pure (ForInStep.yield r)) (fun ok s₃ =>
            if ok = true then wpAny (model prog w) A (eval elt env) (fun x s₄ =>
              wpAny (model prog w) A (call (.builtin "list.append") [acc, x]) (fun _ s₅ => ∃ m, m < n ∧ I m s₅) (fun _ _ => False) s₄) (fun _ _ => False) s₃
            else ∃ m, m < n ∧ I m s₃) (fun _ _ => False) s₂) (fun _ _ => False) s₂) (fun _ _ => False) s₁) (fun _ _ => False) s)
    (n : Nat) (h : I n s) :
    codeAny (model prog w) A (.compLoop (.ListComp elt [⟨target, iter, ifs, 0⟩] scope pos) 0 it acc env) R s := by
  refine codeAny_loop rfl I (fun n s hI => ?_) n h
  show wpAny _ A ((compTurn (.ListComp elt [⟨target, iter, ifs, 0⟩] scope pos) 0 it acc env).onRaise (fun x => do noteFrame x env; theTreesLotGoes x)) _ _ s
  refine wpAny_noted ?_
  rw [compTurn_list]
  refine wpAny_bind (wpAny_standAt (wpAny_bind (wpAny_mono (turn n s hI) (fun r s₁ h₁ => ?_) fun _ _ h' => h'.elim)))
  cases r with
  | none => exact wpAny_pure h₁
  | some v =>
    refine wpAny_bind (wpAny_mono h₁ (fun _ s₁' h₁' => ?_) fun _ _ h' => h'.elim)
    refine wpAny_bind (wpAny_mono h₁' (fun _ s₂ h₂ => wpAny_bind (wpAny_mono h₂ (fun ok s₃ h₃ => ?_) fun _ _ h' => h'.elim)) fun _ _ h' => h'.elim)
    cases ok with
    | false => exact wpAny_pure ⟨rfl, h₃⟩
    | true =>
      exact wpAny_bind (wpAny_bind (wpAny_mono h₃ (fun x s₄ h₄ => wpAny_bind (wpAny_mono h₄ (fun _ s₅ h₅ => wpAny_pure (wpAny_pure ⟨rfl, h₅⟩)) fun _ _ h' => h'.elim)) fun _ _ h' => h'.elim))
theorem comp_block {E : Value → Shared → Prop} {elt iter tg : Expr} {ifs : List Expr} {pos : Pos} {J : It} {tn : Nat → Heap → Prop} {it : Addr} {g : TG} {tc : TT} {te : TE} {Q : VK} {RR : Value → Addr → Result → Shared → Prop}
    (hc : X.calm = true) (I2 : Inv X pins σ H s) (hS : X.env.scope = S) (Sc : CScope S scope x N X.N js) (h1 : ∀ y c, cl.lookup y = some c → X.env.cells.lookup y = some c)
    (h2 : ∀ y ∈ scope.names, y.2 = .free → ∃ c, cl.lookup y.1 = some c) (T : Turn X.prog X.w X.K tg J fp it tn) (st2 : tn 0 s.heap) (f2 : ∀ b ∈ fp, FpOk X pins H b)
    (hg : ∀ cl C fp s H, PG (cxC X scope cl C N fp s H) tg g) (ht : ∀ cl C fp s H, PTs (cxC X scope cl C N fp s H) ifs tc) (he : ∀ cl C fp s H, PE (cxC X scope cl C N fp s H) elt te)
    (q : ∀ D, H D = none → CompW J g tc te js σ H Q D)
    (hRR : ∀ D C H' s', Inv X pins σ H' s' → FpOk X pins H' C → (∃ m, s'.heap.Ns C m) → Q (.ref D) H' → RR (.ref D) C (.ok .next) s') :
    wpAny (model X.prog X.w) X.A (newList []) (fun acc s₃ => wpAny (model X.prog X.w) X.A (newFunctionEnv scope X.env.globals cl [] X.env.qual none .none (some X.env)) (fun cenv s₄ =>
      codeAny (model X.prog X.w) X.A (.compStart (.ListComp elt [⟨tg, iter, ifs, 0⟩] scope pos) 0 (.ref it) acc { cenv with scope := relabel scope X.env }) (RR acc cenv.locals) s₄) E s₃) E s := by
  refine wpAny_newObj_type (wpAny_newFunctionEnv Sc.nocell (by intro y hy; simp at hy) (fun h₁ hns₁ hsb₁ => ?_) Sc.kind)
  dsimp only at hns₁ hsb₁ ⊢
  have I3 : Inv X pins σ (upd H s.heap.objs.size (.lst [])) { s with heap := s.heap.push { cls := .type "list", dict := none, data := .seq ([] : List Value).toArray } } := I2.lnew (its := []) (t' := s.toks) .nil (Nat.zero_le _)
  have hD0 : H s.heap.objs.size = none := I2.hok.fresh (Nat.le_refl _)
  obtain ⟨W, ⟨m0, w0⟩, turn⟩ := q s.heap.objs.size hD0
  generalize hHP : s.heap.push { cls := .type "list", dict := none, data := .seq ([] : List Value).toArray } = HP at hns₁ hsb₁ I3 ⊢
  have hsz : HP.objs.size = s.heap.objs.size + 1 := by rw [← hHP, Heap.size_push]
  have kp : ∀ b o, HP.get? b = some o → h₁.get? b = some o := fun b o e => hsb₁.extBut b o (Nat.ne_of_lt (Heap.lt_size e)) (Heap.get?_push_of_some _ e)
  have lt2 : ∀ b ∈ fp, b < s.heap.objs.size := fun b hb => by
    obtain ⟨o, e, _⟩ := T.obj 0 _ st2 b hb
    exact Heap.lt_size e
  have f3 : ∀ b ∈ fp, FpOk X pins (upd H s.heap.objs.size (.lst [])) b := fun b hb => ⟨by rw [upd_ne (Nat.ne_of_lt (lt2 b hb))]; exact (f2 b hb).1, (f2 b hb).2⟩
  have lt3 : ∀ b ∈ fp, b < HP.objs.size := fun b hb => by rw [hsz]; exact Nat.lt_succ_of_lt (lt2 b hb)
  have IB : Inv (cxC X scope cl HP.objs.size N fp { s with heap := HP } (upd H s.heap.objs.size (.lst []))) [] (cSt σ js) (upd H s.heap.objs.size (.lst [])) { s with heap := h₁, toks := s.toks + ([] : List (Str × Value)).length } :=
    cxC_inv (s := { s with heap := HP }) I3 hS Sc (Nat.le_refl _) h1 h2 f3 lt3 hns₁ kp
  have st1 : tn 0 h₁ := T.keep 0 _ _ st2 fun b _ o e => kp b o (by rw [← hHP]; exact Heap.get?_push_of_some _ e)
  have loop : codeAny (model X.prog X.w) X.A (.compLoop (.ListComp elt [⟨tg, iter, ifs, 0⟩] scope pos) 0 (.ref it) (.ref s.heap.objs.size) (compEnvC scope cl HP.objs.size X.env))
      (RR (.ref s.heap.objs.size) HP.objs.size) { s with heap := h₁, toks := s.toks + ([] : List (Str × Value)).length } := by
    have stat : ∀ {H' : Hp}, (∀ b ∈ fp, H' b = none) → ∀ b ∈ fp, FpOk (cxC X scope cl HP.objs.size N fp { s with heap := HP } (upd H s.heap.objs.size (.lst []))) [] H' b := fun {H'} hn b hb =>
      ⟨hn b hb, Nat.ne_of_lt (lt3 b hb), fun hs => by
        rcases List.mem_cons.mp (I3.stkSub b hs) with z | z
        · exact (f3 b hb).2.1 z
        · exact (f3 b hb).2.2.1 z, .inl hb, fun y c e => (f3 b hb).2.2.2.2.1 y c (h1 _ _ e), fun p hp => absurd (show p ∈ ([] : List (Addr × Obj)) from hp) (by simp)⟩
    refine compLoop_go (fun n s' => ∃ i acc σ' H', Inv (cxC X scope cl HP.objs.size N fp { s with heap := HP } (upd H s.heap.objs.size (.lst []))) [] σ' H' s' ∧ tn i s'.heap ∧ (∀ b ∈ fp, H' b = none) ∧ W i n acc σ' H') ?_ m0
      ⟨0, [], _, _, IB, st1, fun b hb => (f3 b hb).1, w0⟩
    rintro n s5 ⟨i, acc, σ5, H5, I5, st5, fr5, w5⟩
    obtain ⟨hD, alt⟩ := turn i n acc σ5 H5 w5
    rcases alt with ⟨stop, qn⟩ | ⟨go, hz, step⟩
    · refine thn (T.done (cxC X scope cl HP.objs.size N fp { s with heap := HP } (upd H s.heap.objs.size (.lst []))) rfl rfl rfl hc i [] s5 σ5 H5 _ I5 (stat fr5) st5 stop) fun r s6 ⟨hr, I6⟩ => ?_
      subst hr
      have hfin : Inv X pins σ H5 s6 := I3.call' (ch := fp) I6.os I6.base I6.hok I6.bare fun b hb => ⟨(f3 b hb).2.2.2.1, (f3 b hb).2.1, (f3 b hb).2.2.2.2.1, (f3 b hb).2.2.2.2.2⟩
      obtain ⟨m, hm, _⟩ := I6.loc
      exact hRR _ _ H5 s6 hfin (I3.fpOk (Nat.le_refl _) I6.free) ⟨m, hm⟩ qn
    · refine thn (T.item (cxC X scope cl HP.objs.size N fp { s with heap := HP } (upd H s.heap.objs.size (.lst []))) rfl rfl rfl hc i [] s5 σ5 H5 _ I5 (stat fr5) st5 go) fun r s6 ⟨u, hr, h6⟩ => ?_
      subst hr
      refine thn h6 fun _ s7 ⟨y, H7, I7, r7, y7, st7, fr7⟩ => ?_
      have I7' := I7.pinned (stat fr7) (T.obj _ _ st7)
      refine thn (hg _ _ _ _ _ _ s7 σ5 H7 y u _ I7' r7 (step y H7 y7)) fun _ s8 ⟨σ8, H8, I8, q8⟩ => ?_
      have keepIt : ∀ {σ' : St} {H' : Hp} {s' : Shared}, Inv (cxC X scope cl HP.objs.size N fp { s with heap := HP } (upd H s.heap.objs.size (.lst []))) ([] ++ pinsAt fp s7.heap) σ' H' s' → tn (i + 1) s'.heap ∧ ∀ b ∈ fp, H' b = none := fun {σ' H' s'} J' =>
        ⟨T.keep _ _ _ st7 fun b hb o e => (J'.pin (b, o) (List.mem_append_right _ (List.mem_append_right _ (mem_pinsAt hb e)))).1, fun b hb => by
          obtain ⟨o, e, _⟩ := T.obj _ _ st7 b hb
          exact (J'.pin (b, o) (List.mem_append_right _ (List.mem_append_right _ (mem_pinsAt hb e)))).2.1⟩
      refine thn (ht _ _ _ _ _ _ s8 σ8 H8 _ I8 q8) fun ok s9 ⟨H9, I9, q9⟩ => ?_
      cases ok with
      | false =>
        obtain ⟨m', hm, w9⟩ := q9
        obtain ⟨t9, n9⟩ := keepIt I9
        exact ⟨m', hm, i + 1, acc, σ8, H9, I9.unpinned, t9, n9, w9⟩
      | true =>
        refine thn (he _ _ _ _ _ _ s9 σ8 H9 _ I9 q9) fun v s10 ⟨z, H10, I10, r10, hD10, m', hm, w10⟩ => ?_
        refine thn (mt_append _ s10 σ8 H10 (.ref s.heap.objs.size) [z] (.ref s.heap.objs.size) [v] (fun _ H11 => ∃ m', m' < n ∧ W (i + 1) m' (acc ++ [z]) σ8 H11) I10 rfl (.cons r10 .nil) ⟨_, acc, z, rfl, rfl, hD10, hz, m', hm, w10⟩) fun _ s11 ⟨_, H11, I11, _, m2, hm2, w11⟩ => ?_
        obtain ⟨t11, n11⟩ := keepIt I11
        exact ⟨m2, hm2, i + 1, acc ++ [z], σ8, H11, I11.unpinned, t11, n11, w11⟩
  exact codeAny_compStart_list loop (T.self _ 0 _ _ _ st1 loop)
variable {elt iter tg : Expr} {ifs : List Expr} {pos : Pos} {wi : TI} {g : TG} {tc : TT} {te : TE}
theorem pe_comp (hS : X.env.scope = S) (Sc : CScope S scope x N X.N js) (hc : X.calm = true) (hi : PI X tg iter wi)
    (hg : ∀ cl C fp s H, PG (cxC X scope cl C N fp s H) tg g) (ht : ∀ cl C fp s H, PTs (cxC X scope cl C N fp s H) ifs tc) (he : ∀ cl C fp s H, PE (cxC X scope cl C N fp s H) elt te)
    (hs : ∀ x, foldedSetIterable iter X.env x = pure x := by intro _; rfl) : PE X (.ListComp elt [⟨tg, iter, ifs, 0⟩] scope pos) (tComp wi g tc te js) := by
  intro pins s σ H Q I h
  obtain ⟨cl, hcl, h1, h2⟩ := closure_of (scope := scope) (env := X.env) fun y hy hf => I.ok.has y.1 (by have := Sc.free y hy hf; rw [← hS] at this; exact this)
  rw [eval_ListComp]
  refine wpAny_comprehension_free (use := none) rfl hs hcl Sc.kind Sc.loc (thn (hi pins s σ H _ I h) fun xv s1 h1' => thn h1' fun itv s2 h2' => ?_)
  obtain ⟨it, fp, tn, J, H2, rfl, I2, T, st2, f2, q⟩ := h2'
  refine comp_block (RR := fun acc C => compPost (model X.prog X.w) X.A X.xe none (EP X pins σ Q) acc C) hc I2 hS Sc h1 h2 T st2 f2 hg ht he q ?_
  rintro D C H' s' I' f' ⟨m, hm⟩ qD
  exact ⟨m, hm, fun h' hs' => ⟨.ref D, H', I'.turned (t' := s'.toks) (fun b o hb e => (hs'.2 b hb).trans e) f'.1 f'.2.1 f'.2.2.2.1 f'.2.2.2.2.1 f'.2.2.2.2.2, rfl, qD⟩⟩
theorem ps_setComp {i : Nat} {y : Str} {py spos : Pos} (hN : X.N.Nodup) (hiy : X.N[i]? = some y) (hx : Loc X.env.scope y) (hS : X.env.scope = S) (Sc : CScope S scope x N X.N js) (hc : X.calm = true) (hi : PI X tg iter wi)
    (hg : ∀ cl C fp s H, PG (cxC X scope cl C N fp s H) tg g) (ht : ∀ cl C fp s H, PTs (cxC X scope cl C N fp s H) ifs tc) (he : ∀ cl C fp s H, PE (cxC X scope cl C N fp s H) elt te)
    (hsw : swapsWith (.ListComp elt [⟨tg, iter, ifs, 0⟩] scope pos) (some (.Name y py)) spos.line X.env = pure true) (hf : X.fn y = true ∨ X.env.scope.names.lookup y = some .local := by first | exact .inl rfl | exact .inr rfl | assumption)
    (hs : ∀ x, foldedSetIterable iter X.env x = pure x := by intro _; rfl) : PS X (.Assign [.Name y py] (.ListComp elt [⟨tg, iter, ifs, 0⟩] scope pos) spos) (tAsg (tComp wi g tc te js) (gName i)) := by
  intro pins s σ H D I h
  obtain ⟨cl, hcl, h1, h2⟩ := closure_of (scope := scope) (env := X.env) fun y hy hf => I.ok.has y.1 (by have := Sc.free y hy hf; rw [← hS] at this; exact this)
  rw [exec_Assign_Name_used _ _ _ _ hsw]
  refine wpAny_bind (wpAny_standAt (wpAny_bind ?_))
  show wpAny _ _ (do let _ ← comprehension (.ListComp elt [⟨tg, iter, ifs, 0⟩] scope pos) scope X.env _ (newList []) false (eval iter X.env) (some (assign (.Name y py) X.env))) _ _ s
  refine wpAny_bind (wpAny_mono (wpAny_comprehension_free (use := some (assign (.Name y py) X.env)) (Q := fun _ s' => SP X pins D .next s') rfl hs hcl Sc.kind Sc.loc
    (thn (hi pins s σ H _ I h) fun xv s1 h1' => thn h1' fun itv s2 h2' => ?_)) (fun _ s' hq => wpAny_pure (wpAny_pure hq)) fun _ _ e => e)
  obtain ⟨it, fp, tn, J, H2, rfl, I2, T, st2, f2, q⟩ := h2'
  refine comp_block (RR := fun acc C => compPost (model X.prog X.w) X.A X.xe (some (assign (.Name y py) X.env)) (fun _ s' => SP X pins D .next s') acc C) hc I2 hS Sc h1 h2 T st2 f2 hg ht he q ?_
  rintro A C H' s' I' f' ⟨m, hm⟩ qD
  show wpAny _ _ (assign (.Name y py) X.env (.ref A)) _ _ _
  refine wpAny_assign_Name (store_ok2 I' hN hiy hx (v := .ref A) rfl (fun s'' I'' hch => ?_) hf)
  obtain ⟨a, hsb, ha⟩ := hch
  have hCa : C ≠ a := by
    rcases ha with z | z
    · rw [z]; exact f'.2.1
    · exact fun e => f'.2.2.2.2.1 y a z e.symm
  refine ⟨m, hm.sameBut hsb hCa, fun h' hs' => ⟨_, H', I''.turned (t' := s''.toks) (fun b o hb e => (hs'.2 b hb).trans e) f'.1 f'.2.1 f'.2.2.2.1 f'.2.2.2.2.1 f'.2.2.2.2.2, qD⟩⟩
end
theorem comp_range {lo : Int} {n : Nat} {te : TE} {js : List Nat} {σ : St} {H1 : Hp} {Q : VK} {D : Addr} (f : Nat → V) (hn : n ≤ sizeLine)
    (he : ∀ (i : Nat) (acc : List V) (R : VK), i < n → R (f i) (upd H1 D (.lst acc)) → te (some (.int (lo + i)) :: js.map fun j => (σ[j]?).getD none) (upd H1 D (.lst acc)) R)
    (hq : Q (.ref D) (upd H1 D (.lst ((List.range n).map f)))) : CompW (Itr lo n) (gName 0) tYes te js σ H1 Q D := by
  refine ⟨fun i m acc σ' H' => m = n - i ∧ i ≤ n ∧ acc = (List.range i).map f ∧ (∃ v, σ' = v :: js.map fun j => (σ[j]?).getD none) ∧ H' = upd H1 D (.lst acc), ⟨n, by simp, Nat.zero_le _, rfl, ⟨none, rfl⟩, rfl⟩, ?_⟩
  rintro i m acc σ' H' ⟨rfl, hi, rfl, ⟨v, rfl⟩, rfl⟩
  refine ⟨upd_same, ?_⟩
  by_cases hlt : i < n
  · refine .inr ⟨hlt, by rw [List.length_map, List.length_range]; omega, ?_⟩
    rintro y H2 ⟨rfl, rfl⟩
    show te (some (V.int (lo + i)) :: js.map fun j => (σ[j]?).getD none) _ _
    refine he i _ _ hlt ⟨upd_same, n - (i + 1), by omega, rfl, hlt, ?_, ⟨_, rfl⟩, ?_⟩
    · rw [List.range_succ, List.map_append]; rfl
    · rw [upd_upd]
  · have e : i = n := by omega
    subst e
    exact .inl ⟨Nat.le_refl _, hq⟩
theorem comp_seq {J : It} {xs : List V} {te : TE} {js : List Nat} {σ : St} {H1 : Hp} {Q : VK} {D : Addr} (f : Nat → V) (hn : xs.length ≤ sizeLine)
    (hgo : ∀ i acc, i < xs.length → J.go i (upd H1 D (.lst acc))) (hst : ∀ acc, J.stop xs.length (upd H1 D (.lst acc))) (hy : ∀ i acc y H2, i < xs.length → J.yld i (upd H1 D (.lst acc)) y H2 → xs[i]? = some y ∧ H2 = upd H1 D (.lst acc))
    (he : ∀ (i : Nat) (y : V) (acc : List V) (R : VK), xs[i]? = some y → R (f i) (upd H1 D (.lst acc)) → te (some y :: js.map fun j => (σ[j]?).getD none) (upd H1 D (.lst acc)) R)
    (hq : Q (.ref D) (upd H1 D (.lst ((List.range xs.length).map f)))) : CompW J (gName 0) tYes te js σ H1 Q D := by
  refine ⟨fun i m acc σ' H' => m = xs.length - i ∧ i ≤ xs.length ∧ acc = (List.range i).map f ∧ (∃ v, σ' = v :: js.map fun j => (σ[j]?).getD none) ∧ H' = upd H1 D (.lst acc), ⟨xs.length, by simp, Nat.zero_le _, rfl, ⟨none, rfl⟩, rfl⟩, ?_⟩
  rintro i m acc σ' H' ⟨rfl, hi, rfl, ⟨v, rfl⟩, rfl⟩
  refine ⟨upd_same, ?_⟩
  by_cases hlt : i < xs.length
  · refine .inr ⟨hgo i _ hlt, by rw [List.length_map, List.length_range]; omega, ?_⟩
    intro y H2 hyl
    obtain ⟨hx, rfl⟩ := hy i _ y H2 hlt hyl
    show te (some y :: js.map fun j => (σ[j]?).getD none) _ _
    refine he i y _ _ hx ⟨upd_same, xs.length - (i + 1), by omega, rfl, hlt, ?_, ⟨_, rfl⟩, ?_⟩
    · rw [List.range_succ, List.map_append]; rfl
    · rw [upd_upd]
  · have e : i = xs.length := by omega
    subst e
    exact .inl ⟨hst _, hq⟩
theorem comp_list {K : PySem.W.Frag} {a : Addr} {xs : List V} {te : TE} {js : List Nat} {σ : St} {H1 : Hp} {Q : VK} {D : Addr} (f : Nat → V) (hn : xs.length ≤ sizeLine) (hl : ∀ acc, SqL K (upd H1 D (.lst acc)) a xs)
    (he : ∀ (i : Nat) (y : V) (acc : List V) (R : VK), xs[i]? = some y → R (f i) (upd H1 D (.lst acc)) → te (some y :: js.map fun j => (σ[j]?).getD none) (upd H1 D (.lst acc)) R)
    (hq : Q (.ref D) (upd H1 D (.lst ((List.range xs.length).map f)))) : CompW (Itl K a) (gName 0) tYes te js σ H1 Q D :=
  comp_seq f hn (fun i acc hi => ⟨xs, xs[i], hl acc, by simp [hi]⟩) (fun acc => ⟨xs, hl acc, Nat.le_refl _⟩) (fun i acc y H2 hi h => ⟨h.2 xs (hl acc), h.1⟩) he hq
theorem comp_tup {K : PySem.W.Frag} {a : Addr} {xs : List V} {te : TE} {js : List Nat} {σ : St} {H1 : Hp} {Q : VK} {D : Addr} (f : Nat → V) (hn : xs.length ≤ sizeLine) (hl : ∀ acc, SqT K (upd H1 D (.lst acc)) a xs)
    (he : ∀ (i : Nat) (y : V) (acc : List V) (R : VK), xs[i]? = some y → R (f i) (upd H1 D (.lst acc)) → te (some y :: js.map fun j => (σ[j]?).getD none) (upd H1 D (.lst acc)) R)
    (hq : Q (.ref D) (upd H1 D (.lst ((List.range xs.length).map f)))) : CompW (Itt K a) (gName 0) tYes te js σ H1 Q D :=
  comp_seq f hn (fun i acc hi => ⟨xs, xs[i], hl acc, by simp [hi]⟩) (fun acc => ⟨xs, hl acc, Nat.le_refl _⟩) (fun i acc y H2 hi h => ⟨h.2 xs (hl acc), h.1⟩) he hq
end L2
namespace L2
open PySem PySem.Spec PyProof.Rows
section
variable {X : Cx}
def tTupRev (K : PySem.W.Frag) (ta : TA) : TE := fun σ H Q => ta σ H fun vs H1 => ∃ a xs, vs = [.ref a] ∧ SqT K H1 a xs ∧ ∀ p, H1 p = none → Q (.ref p) (upd H1 p (.tup xs.reverse))
theorem vals_rev {xs : List V} {its : List Value} (r : Vals xs its) {acc : Array Value} (h : ItemsOf (fun i v => its.toArray[its.toArray.size - 1 - i]? = some v) acc its.toArray.size) : Vals xs.reverse acc.toList := by
  have e : acc.toList = its.reverse := by
    apply List.ext_getElem?
    intro i
    have hl : acc.size = its.length := by simpa using h.1
    by_cases hi : i < its.length
    · have hi' : i < acc.size := by omega
      have := h.2 i acc[i] (by simp [hi'])
      rw [List.getElem?_reverse hi, Array.getElem?_toList, show acc[i]? = some acc[i] by simp [hi']]
      rw [List.size_toArray] at this
      rw [← this]
      simp
    · rw [List.getElem?_eq_none (by simp; omega), List.getElem?_eq_none (by simp; omega)]
  rw [e]
  exact r.reverse
theorem pe_tupRev {e : Expr} {ta : TA} {p1 p2 pos1 pos2 : Pos} (hg : Gl X "tuple") (hg2 : Gl X "reversed") (hm : X.mg "tuple" = none) (hm2 : X.mg "reversed" = none) (hc : X.calm = true) (ha : PA X [e] ta)
    (hs : starEach [e] X.env = [(false, eval e X.env)] := by rfl) (hs2 : starEach [Expr.Call (.Name "reversed" p2) [e] [] pos2] X.env = [(false, eval (.Call (.Name "reversed" p2) [e] [] pos2) X.env)] := by rfl) :
    PE X (.Call (.Name "tuple" p1) [.Call (.Name "reversed" p2) [e] [] pos2] [] pos1) (tTupRev X.K ta) := by
  intro pins s σ H Q I h
  refine Call_ (ld_blt I hg hm (by decide +kernel : bootBuiltins "tuple" = some (.type "tuple")) (PyProof.Rows.callWith_type1 ?_ hs2 rfl))
  rw [hs2]
  show wpAny _ _ (spliced ((false, eval (.Call (.Name "reversed" p2) [e] [] pos2) X.env) :: [])) _ _ s
  refine Calls.spliced_cons ?_
  refine Call_ (ld_blt I hg2 hm2 (by decide +kernel : bootBuiltins "reversed" = some (.type "reversed")) (PyProof.Rows.callWith_type1 (thn (ha pos2 pins s σ H _ I h) fun us s1 ⟨vs, H1, I1, r1, q1⟩ => ?_) hs rfl))
  obtain ⟨a, xs, rfl, hq, q⟩ := q1
  obtain ⟨u, rfl, rx⟩ := vals1 r1
  cases rx
  obtain ⟨its, rv, pl, hz⟩ := I1.tuple hq
  have hl := rv.length
  have h63 := line63
  have pt : s1.heap.IsTuple a its.toArray := pl
  refine Tn.call_rev pt (by rw [List.size_toArray]; omega) fun tk => ?_
  refine Calls.spliced_nil ?_
  have I2 : Inv X pins σ H1 { s1 with heap := s1.heap.push (Tn.rvO a ((its.toArray.size : Int) - 1)), toks := tk } := I1.kept fun b o e => Heap.get?_push_of_some _ e
  have hne : a ≠ s1.heap.objs.size := by
    obtain ⟨o, e1, _⟩ := pt
    exact Nat.ne_of_lt (Heap.lt_size e1)
  refine Tn.call_tuple_rv (xs := its.toArray) (tp := a) (a := s1.heap.objs.size) (I.ok.hd hc) hne ⟨_, Heap.get?_push_size _ rfl, rfl, rfl⟩ (Tn.tup_at pt fun o e1 => Heap.get?_push_of_some _ e1) (by rw [List.size_toArray]; omega) fun s' acc hm hacc => ?_
  have f0 : FpOk X pins H1 s1.heap.objs.size := I1.fpOk (Nat.le_refl _) (I1.hok.fresh (Nat.le_refl _))
  have I3 : Inv X pins σ H1 s' := by
    obtain ⟨h', g', d', t', o'⟩ := s'
    have e1 : g' = s1.gens := hm.gens
    have e2 : d' = s1.drawn := hm.drawn
    have e3 : o' = s1.os := hm.os
    subst e1; subst e2; subst e3
    exact I2.turned (fun b o hb e => hm.heap b o (by simpa using hb) e) f0.1 f0.2.1 f0.2.2.2.1 f0.2.2.2.2.1 f0.2.2.2.2.2
  exact ⟨.ref s'.heap.objs.size, _, I3.laid (t' := s'.toks) (o := .tup xs.reverse) (fun b o e => Heap.get?_push_of_some _ e) (Nat.le_refl _) ⟨by rw [List.length_reverse]; exact hz, acc.toList, vals_rev rv hacc, by simpa using IsTupN.new s'.heap acc⟩, rfl, q _ (I3.hok.fresh (Nat.le_refl _))⟩
variable {o e : Expr} {es : List Expr} {to : TE} {t : TA} {name : Str} {apos cpos : Pos} {id : String} {r : V → List V → Hp → VK → Prop}
end
end L2
namespace Tn
open PySem L2
structure Blt (mg : Str → Option Value) : Prop where
  len : mg "len" = none
  rng : mg "range" = none
  lst : mg "list" = none
  tup : mg "tuple" = none
  isi : mg "isinstance" = none
  int : mg "int" = none
  bl : mg "bool" = none
theorem boot_isi : bootBuiltins "isinstance" = some (.builtin "isinstance") := by decide +kernel
theorem boot_ty_tuple : bootBuiltins "tuple" = some (.type "tuple") := by decide +kernel
theorem boot_ty_int : bootBuiltins "int" = some (.type "int") := by decide +kernel
theorem boot_ty_bool : bootBuiltins "bool" = some (.type "bool") := by decide +kernel
theorem boot_ty_list : bootBuiltins "list" = some (.type "list") := by decide +kernel
theorem boot_ty_range : bootBuiltins "range" = some (.type "range") := by decide +kernel
theorem same_upd {H : Hp} {a : Addr} {o : HO} (h : H a = none) : Same H (upd H a o) := fun b u e => by rw [upd_ne (ne_of_none e h)]; exact e
theorem _root_.L2.Same.sqt {K : PySem.W.Frag} {H H' : Hp} {a : Addr} {xs : List V} (e : Same H H') (h : SqT K H a xs) : SqT K H' a xs := by
  rcases h with (h | ⟨o, h⟩) | h
  · exact .inl (.inl (e _ _ h))
  · exact .inl (.inr ⟨o, e _ _ h⟩)
  · exact .inr h
theorem ints_get {ns : List Int} {i : Nat} {y : V} (h : (ns.map V.int)[i]? = some y) : ∃ z, ns[i]? = some z ∧ y = V.int z := by
  rw [List.getElem?_map] at h
  cases e : ns[i]? with
  | none => rw [e] at h; cases h
  | some z => rw [e] at h; exact ⟨z, rfl, (Option.some.inj h).symm⟩
theorem get_ints {ns : List Int} {i : Nat} {z : Int} (h : ns[i]? = some z) : (ns.map V.int)[i]? = some (V.int z) := by
  rw [List.getElem?_map, h]; rfl
theorem at_ints {ns : List Int} {j : Nat} {z : Int} (h : ns[j]? = some z) : atI (ns.map V.int) (j : Int) = some (V.int z) := atI_nat (get_ints h)
theorem line1000 {n : Nat} (h : n ≤ 1000) : n ≤ sizeLine := Nat.le_of_lt (small1000 h)
section
variable {P : Program} {w : World} {K : PySem.W.Frag} {mg : Str → Option Value} {base : Heap}
end
end Tn
namespace Tn
open PySem PySem.W PySem.Calls PyProof.Rows PySem.Spec PySem.Builtin PySem.Builtin.ObjectAttr PySem.Builtin.Getset_descriptor
structure ExcTxt (K : Frag) (D : Addr) : Prop where
  cls : (clsIn K D).isSome = true
  ga : findIn K (.ref D) "__getattribute__" = some (some (.builtin "BaseException.__getattribute__"))
  hook : findIn K (.ref D) "__getattr__" = some none
  ca : findIn K (.ref D) "__class__" = some (some (.builtin "object.__class__"))
  sp : specialIn K (.builtin "object.__class__") "__get__" = some (some (.builtin "getset_descriptor.__get__"))
  tk : takesIn K (.builtin "object.__class__") = some true
  ob : mroIn K D (.type "object") = some true
  be : mroIn K D (.type "BaseException") = some true
section
variable {prog : Program} {w : World} {A : Around} {E : Value → Shared → Prop} {s : Shared} {K : Frag} {x D : Addr}
end
end Tn
namespace Tn
open L2 PySem PySem.W PySem.Calls PyProof.Rows PySem.Spec
section
variable {P : Program} {w : World} {H H' : Hp} {h : Heap} {a : Addr} {o : HO}
theorem obj_has (x : ObjOk P w H h a o) : ∃ u, h.get? a = some u := by
  cases o with
  | lst xs => obtain ⟨_, _, _, _, e⟩ := x; exact ⟨_, e⟩
  | tup xs => obtain ⟨_, _, _, _, e, _⟩ := x; exact ⟨_, e⟩
  | dK kvs => obtain ⟨_, _, _, _, o, _, _, e, _⟩ := x; exact ⟨_, e⟩
  | dT kvs => obtain ⟨_, _, _, _, o, _, _, e, _⟩ := x; exact ⟨_, e⟩
  | set S n => obtain ⟨o, _, _, _, e, _⟩ := x; exact ⟨_, e⟩
  | ins C dx fs => obtain ⟨_, _, _, e, _⟩ := x; exact ⟨_, e⟩
  | own y => obtain ⟨_, e⟩ := x; exact ⟨_, e⟩
  | xd fs => obtain ⟨_, ⟨_, _, _, e, _⟩, _⟩ := x; exact ⟨_, e⟩
  | rng lo hi => obtain ⟨_, _, _, e⟩ := x; exact ⟨_, e⟩
  | frz ob u => obtain ⟨e, _⟩ := x; exact ⟨_, e⟩
  | tbl ps => exact ⟨_, (show h.get? a = some _ from x)⟩
  | lam q => obtain ⟨_, e, _⟩ := x; exact ⟨_, e⟩
  | met f y => exact ⟨_, (show h.get? a = some _ from x)⟩
  | ext φ => obtain ⟨_, ⟨_, e⟩, _⟩ := x; exact ⟨_, e⟩
end
structure Cover (B h0 : Heap) (fs : List Addr) (H' : Hp) : Prop where
  trk : ∀ a o, H' a = some o → ∃ u, B.get? a = some u
  std : ∀ b o, h0.get? b = some o → b ∉ fs → ∃ u, B.get? b = some u
theorem lie_step {P : Program} {w : World} {fs : List Addr} {H H' : Hp} {B h0 h h' : Heap} (u : Un fs [] H H' h0 h) (ok : HOk P w H' h) (c : Cover B h0 fs H') (hf : ∀ b ∈ fs, ∃ o, h.get? b = some o ∧ ∀ vs, o.data ≠ .fields vs)
    (k : B.StaysIn h) (k' : B.StaysIn h') (sl : h.UpToSlots h') : Un fs [] H H' h0 h' ∧ HOk P w H' h' := by
  have inB : ∀ b o v, B.get? b = some v → h.get? b = some o → h'.get? b = some o := fun b o v e q => by
    have := k b v e
    rw [q] at this; cases this
    exact k' b _ e
  refine ⟨⟨fun b o e n hb hx => ?_, fun b o e n hb hx => ?_, u.free, fun b o e hx => ?_, u.tups, u.frzs, u.tbls⟩, fun a o e => ?_⟩
  · obtain ⟨v, hv⟩ := c.std b o e hb
    exact inB b o v hv (u.keep b o e n hb hx)
  · obtain ⟨s1, e1⟩ := u.slot b o e n hb hx
    obtain ⟨o2, e2, d2⟩ := hf b hb
    rw [e1] at e2; cases e2
    obtain ⟨s2, e3⟩ := sl b _ e1 d2
    exact ⟨s2, e3⟩
  · obtain ⟨o1, e1⟩ := u.there b o e hx
    by_cases hb : b ∈ fs
    · obtain ⟨o2, e2, d2⟩ := hf b hb
      obtain ⟨s2, e3⟩ := sl b _ e2 d2
      exact ⟨_, e3⟩
    · obtain ⟨v, hv⟩ := c.std b o e hb
      exact ⟨_, inB b o1 v hv e1⟩
  · refine (ok a o e).stay (fun b v hb q => ?_) (fun _ q => q) fun _ _ q => q
    rcases hb with rfl | hb
    · obtain ⟨z, hz⟩ := c.trk _ _ e
      exact inB _ v z hz q
    · obtain ⟨z, hz⟩ := c.trk _ _ hb
      exact inB _ v z hz q
def CXV (P : Program) (w : World) : CXT := fun outer H s E e s' => ∃ (x : Addr) (cls a0 : Value) (B : Heap) (H' : Hp), e = .ref x ∧ s'.os = s.os ∧ AllBare s'.gens ∧ Un (frs outer) [] H H' s.heap s'.heap ∧ HOk P w H' s'.heap ∧
  Heap.FlyingW B outer x cls a0 s'.heap ∧ Cover B s.heap (frs outer) H' ∧ H' x = none ∧ E cls none H'
theorem fly_frames {B h : Heap} {l : List Env} {x : Addr} {cls a0 : Value} (f : Heap.FlyingW B l x cls a0 h) : ∀ b ∈ frs l, ∃ o, h.get? b = some o ∧ ∀ vs, o.data ≠ .fields vs := fun b hb => (f.2.2.1.mem hb).2
section
variable {P : Program} {w : World} {K : Frag} {mg : Str → Option Value} {base : Heap} {N : List Str} {qual : Str} {scope : Scope} {f : Addr} {cd : Value} {A : Around} {outer : List Env} {s : Shared} {H : Hp} {E : XK}
theorem out_std {X : Cx} {pins : List (Addr × Obj)} {σ : L2.St} {H1 : Hp} {s1 : Shared} (I : Inv X pins σ H1 s1) (hx : X.ex = []) : ∀ b o, X.s₀.heap.get? b = some o → b ∉ X.fs → (∃ o', s1.heap.get? b = some o') ∧ b ∉ frs X.stack := fun b o e hb => by
  refine ⟨I.base.there b o e (by rw [hx]; simp), fun hz => ?_⟩
  rcases List.mem_cons.mp (I.stkSub b hz) with q | q
  · have h1 := Heap.lt_size e
    have h2 := I.ok.above
    rw [q] at h1
    exact absurd (Nat.lt_of_lt_of_le h1 h2) (Nat.lt_irrefl _)
  · exact hb q
theorem passV : Passes (CXV P w) (cxOf (CXV P w) P w K mg base N qual scope f cd A outer s H E) E := by
  intro pins σ H1 s1 e s' I h
  obtain ⟨x, cls, a0, B, H', rfl, os, bare, un, hok, fl, c, hn, hE⟩ := h
  show wpAny _ _ (leaving _ _) _ _ _
  refine wpAny_leaves_onW (base := B) (cls := cls) (a0 := a0) I.ok.frames rfl fl fun h2 fl2 sl => ?_
  obtain ⟨un2, hok2⟩ := lie_step un hok c (fly_frames fl) fl.1 fl2.1 sl
  have J := I.call' (s' := { s' with heap := h2 }) (ch := []) os un2 hok2 bare (fun b z => absurd z (by simp))
  refine ⟨x, cls, a0, B, H', rfl, J.os, J.bare, J.base, J.hok, fl2, ⟨c.trk, fun b o e hb => ?_⟩, hn, hE⟩
  obtain ⟨⟨o', e'⟩, nb⟩ := out_std I rfl b o e hb
  exact c.std b o' e' nb
def Throws (X : Cx) (E : XK) : Prop := ∀ (pins : List (Addr × Obj)) (σ : L2.St) (H1 : Hp) (s1 : Shared) (h' : Heap) (e C : Addr) (vs : List Value), Inv X pins σ H1 s1 → Heap.MadeExcOf s1.heap h' e (.ref C) vs → E (.ref C) none H1 → X.xe (.ref e) { s1 with heap := h' }
theorem throwV : Throws (cxOf (CXV P w) P w K mg base N qual scope f cd A outer s H E) E := by
  intro pins σ H1 s1 h' e C vs I m hE
  show wpAny _ _ (leaving _ _) _ _ _
  have st := I.stack
  have hin : ∀ env ∈ (cxOf (CXV P w) P w K mg base N qual scope f cd A outer s H E).stack, ∀ b, env.frame = some b → b ∈ frs (cxOf (CXV P w) P w K mg base N qual scope f cd A outer s H E).stack := fun env he b hb => List.mem_filterMap.mpr ⟨env, he, hb⟩
  refine wpAny_leaves_madeW (base := hideAll s1.heap (frs (cxOf (CXV P w) P w K mg base N qual scope f cd A outer s H E).stack)) I.ok.frames rfl (fun b o q => of_hideAll _ q) (funFrames_hide st hin) m fun h2 t fl _ _ sl => ?_
  have c : Cover (hideAll s1.heap (frs (cxOf (CXV P w) P w K mg base N qual scope f cd A outer s H E).stack)) s1.heap (frs (cxOf (CXV P w) P w K mg base N qual scope f cd A outer s H E).stack) H1 :=
    ⟨fun a o q => by
      obtain ⟨u, hu⟩ := obj_has (I.hok a o q)
      exact ⟨u, hideAll_get _ hu fun z => by rw [I.stkFree a z] at q; cases q⟩, fun b o q hb => ⟨o, hideAll_get _ q hb⟩⟩
  have fr : ∀ b ∈ frs (cxOf (CXV P w) P w K mg base N qual scope f cd A outer s H E).stack, ∃ o, h'.get? b = some o ∧ ∀ vs, o.data ≠ .fields vs := fun b hb => by
    obtain ⟨_, o, ho, hd⟩ := st.mem hb
    exact ⟨o, m.keeps b o ho, hd⟩
  obtain ⟨un2, hok2⟩ := lie_step (Un.kept m.keeps) (I.hok.kept m.keeps) c fr (fun b o q => m.keeps b o (of_hideAll _ q)) fl.1 sl
  have J := I.call' (s' := { s1 with heap := h2 }) (ch := []) rfl un2 hok2 I.bare (fun b z => absurd z (by simp))
  refine ⟨e, .ref C, .ref t, _, H1, rfl, J.os, J.bare, J.base, J.hok, fl, ⟨c.trk, fun b o e hb => ?_⟩, ?_, hE⟩
  · obtain ⟨⟨o', e'⟩, nb⟩ := out_std I rfl b o e hb
    exact c.std b o' e' nb
  · cases q : H1 e with
    | none => rfl
    | some o =>
      obtain ⟨u, hu⟩ := obj_has (I.hok e o q)
      rw [m.new] at hu; cases hu
theorem funV {x : Str} {st : Stmt} {fd : FuncData} {ps : List Str} {k : Nat} {sp : Sp} (F : L2.Fun K x qual st f fd) (S : FnScope N ps (defScope st)) (len : ∀ vs H Q E, sp vs H Q E → vs.length = ps.length)
    (hbody : ∀ (cdv : Value) (A : Around) (outer : List Env) (s : Shared) (H : Hp) (vs : List V) (Q : VK) (E : XK), Room k (A.deeper (envOfC qual (defScope st) s.heap.objs.size f cdv)) → sp vs H Q E →
      ∃ t, PSs (cxOf (CXV P w) P w K mg base N qual (defScope st) f cdv A outer s H E) (defBody st) t ∧ t { nx := fun _ H' => Q .non H', rt := Q } (start N vs) H) : FnOk P w K mg base (CXV P w) (k + 1) f fd ps sp := by
  obtain ⟨oc, od, kV, doc, pm, an, cdv, ct, osl, rfl, lk, hcd⟩ := F.ex
  exact fn_of lk hcd S len fun A outer s H vs Q E hr hsp => hbody cdv A outer s H vs Q E hr hsp
end
theorem exc_obj {K : Frag} {h : Heap} {C : Addr} {bmB : List Value} {newId : String} (X : K.In h) (q : excIn K C bmB newId = true) :
    ∃ bm N nm qn bs hdct sn sub ab col dd k0 k1 k2 k3 k5 mN, h.get? C = some (excClassObj nm qn C N bs bm hdct sn sub ab col dd k0 k1 k2 k3 k5 newId) ∧ h.Ns N mN ∧ mN "__init__" = none ∧ OwnTail h bmB bm := by
  unfold excIn at q
  split at q
  case h_2 => cases q
  rename_i dd cd sl ho
  split at q
  case h_2 => cases q
  rename_i C' bm k0 k1 k2 k3 n k5 hm hs
  simp only [Bool.and_eq_true, beq_iff_eq, Bool.not_eq_true'] at q
  obtain ⟨⟨⟨⟨⟨e1, e2⟩, e3⟩, e4⟩, e5⟩, e6⟩ := q
  subst e1 e2
  obtain ⟨nm, bs, mro, ns, qn, hd, sn, sub, ab, col, del⟩ := cd
  dsimp only at hm e3 e5 e6
  subst hm e3
  obtain ⟨l⟩ := sl
  simp only at hs
  subst hs
  exact ⟨bm, ns, nm, qn, bs, hd, sn, sub, ab, col, dd, k0, k1, k2, k3, k5, h.nsMap ns, X _ _ ho, .of_isNs (isNs_of_in X e5), nsMap_none_of_in X e5 e6, tail_of_in X e4⟩
def sRaise (C : Addr) (E : XK) (t : TA) : TS := fun _ σ H => t σ H fun vs H1 => vs.length ≤ sizeLine ∧ E (.ref C) none H1
abbrev bmVE : List Value := [.type "ValueError", .type "Exception", .type "BaseException", .type "object"]
theorem ps_raise {X : Cx} {E : XK} {x : Str} {np cpos pos : Pos} {e : Expr} {es : List Expr} {t : TA} {C : Addr} (ht : Throws X E) (hc : X.calm = true) (hg : Gl X x) (hm : X.mg x = some (.ref C)) (hC : excIn X.K C bmVE "ValueError.__new__" = true) (ha : PA X (e :: es) t)
    (hd : (x == ("__debug__" : Str)) = false := by decide) (he : starEach (e :: es) X.env = (false, eval e X.env) :: starEach es X.env := by rfl) (hpl : (backTo cpos (starEach es X.env)).any (·.1) = false := by rfl) :
    PS X (.Raise (some (.Call (.Name x np) (e :: es) [] cpos)) none pos) (sRaise C E t) := by
  intro pins s σ H D I h
  obtain ⟨bm, N, nm, q, bs, hdct, sn, sub, ab, col, dd, k0, k1, k2, k3, k5, mN, o1, o2, o3, o4⟩ := exc_obj I.ok.mod.kin hC
  have hpl2 : (backTo cpos (starEach (e :: es) X.env)).any (·.1) = false := by
    rw [he]; show (false || (backTo cpos (starEach es X.env)).any (·.1)) = false; rw [hpl]; rfl
  refine wpAny_Raise_call_subT F.excBase_ValueError (C := C) (N := N) (nm := nm) (q := q) (bs := bs) (bm := bm) (hdct := hdct) (sn := sn) (sub := sub) (ab := ab) (col := col) (dd := dd) (k0 := k0) (k1 := k1) (k2 := k2) (k3 := k3) (k5 := k5) (mN := mN)
    (o4.hasType F.excBase_ValueError.hasBase) (I.ok.hd hc) hpl2 o3 (ld_glob I hg hm ⟨rfl, ?_⟩ hd)
  have key := ha cpos pins s σ H _ I h
  rw [he] at key ⊢
  refine Calls.evalArgs_plain (wpAny_mono key (fun us s2 z => ?_) fun _ _ y => y)
  obtain ⟨vs, H1, I1, r, hl, hE⟩ := z
  have kp := I1.bk
  exact ⟨rfl, by rw [← r.length]; exact hl, kp _ _ o1, o2.keeps kp, o4.keeps kp, fun h' e m => ht pins σ H1 s2 h' e C us I1 m hE⟩
end Tn
namespace Tn
open L2 PySem PySem.W PySem.Calls PyProof.Rows PySem.Spec
section
variable {X : Cx} {pins : List (Addr × Obj)} {σ : L2.St} {H : Hp} {s : Shared}
end
structure CatTxt (K : Frag) (C : Addr) : Prop where
  cls : (clsIn K C).isSome = true
  ty : typeIn K (.ref C) = some (.type "type")
  be : mroIn K C (.type "BaseException") = some true
end Tn
namespace Tn
open PySem PySem.Calls
section
variable {prog : Program} {w : World} {A : Around} {E : Value → Shared → Prop} {s : Shared}
theorem rg_collect {r : Addr} {a b c : Int} {t u v : Tok} {n : Nat} {Q : List Value → Shared → Prop} (hh : A.handled = none) (hr : IsRange s.heap r a b c t u v) (hsmall : Builtin.Range.small a b c = true) (hn : Builtin.Range.rangeSize a b c = n) (hlen : n ≤ 2 ^ 24)
    (hQ : ∀ (h' : Heap) (tk : Nat) (acc : Array Value), (∀ b o, s.heap.get? b = some o → h'.get? b = some o) → ItemsOf (fun i v => ∃ t, v = .int (a + i * c) t) acc n → Q acc.toList { s with heap := h', toks := tk }) : wpAny (model prog w) A (collect (.ref r)) Q E s := by
  unfold collect
  refine wpAny_bind (wpAny_runValue (codeAny_builtin F.entry_proto_collect ?_))
  rw [Around.under_plainId F.plain_proto_collect _]
  show wpAny _ A.in1 (newList [] >>= fun l => again (.builtin "list.__iadd__" ⟨[l, .ref r], []⟩)) _ _ s
  refine wpAny_bind (wpAny_newObj_type ?_)
  refine wpAny_pure ⟨plainId_quiet F.plain_list_iadd _, codeAny_builtin F.entry_list_iadd ?_⟩
  rw [Around.under_plainId F.plain_list_iadd _]
  show wpAny _ A.in1 (Builtin.List.listExtendWith (.ref s.heap.objs.size) (.ref r) (.ref s.heap.objs.size)) _ _ _
  have kp : ∀ b o, s.heap.get? b = some o → (s.heap.push { cls := .type "list", data := .seq ([] : List Value).toArray }).get? b = some o := fun b o e => Heap.get?_push_of_some _ e
  have hS1 : (s.heap.push { cls := .type "list", data := .seq ([] : List Value).toArray }).get? s.heap.objs.size = some { cls := .type "list", data := .seq #[] 0 } := Heap.get?_push_size _ rfl
  refine wpAny_extend_range (R := fun r s' => match r with
        | .ok (.ret v) => wpAny (model prog w) A (match v with
            | .ref a => do
              match (← load a).data with
              | .seq xs _ => pure xs.toList
              | _ => unsupported "internal:collect"
            | _ => unsupported "internal:collect") Q E s'
        | .ok _ => False | .error e => E e s') (s := { s with heap := s.heap.push { cls := .type "list", data := .seq ([] : List Value).toArray } }) hh (kp r _ hr) hsmall hn hlen s.heap.objs.size (.ref s.heap.objs.size) 0 hS1 fun h' tk acc' c' hk hS' hacc => ?_
  show wpAny _ A (load s.heap.objs.size >>= _) _ _ _
  refine wpAny_bind (wpAny_load hS' ?_)
  exact wpAny_pure (hQ h' tk acc' (fun b o e => hk b o (Nat.ne_of_lt (Heap.lt_size e)) (kp b o e)) hacc)
theorem rg_tuple_new {r : Addr} {a b c : Int} {t u v : Tok} {n : Nat} {Q : Value → Shared → Prop} (hh : A.handled = none) (hr : IsRange s.heap r a b c t u v) (hsmall : Builtin.Range.small a b c = true) (hn : Builtin.Range.rangeSize a b c = n) (hlen : n ≤ 2 ^ 24)
    (hQ : ∀ (h' : Heap) (tk : Nat) (acc : Array Value), (∀ b o, s.heap.get? b = some o → h'.get? b = some o) → ItemsOf (fun i v => ∃ t, v = .int (a + i * c) t) acc n → Q (.ref h'.objs.size) { s with heap := h'.push { cls := .type "tuple", data := .seq acc }, toks := tk }) :
    codeAny (model prog w) A (.call (.builtin "tuple.__new__") ⟨[.type "tuple", .ref r], []⟩) (wants Q E) s := by
  refine codeAny_of_tree ?_
  show wpAny _ A.in1 (do checkBuiltinCall "tuple.__new__" ⟨[.type "tuple", .ref r], []⟩; again (.builtin "tuple.__new__" ⟨[.type "tuple", .ref r], []⟩)) _ _ s
  refine wpAny_bind (wpAny_of_eq (F.newCall_tuple_1 _) (wpAny_pure ⟨plainId_quiet F.plain_tuple_new _, codeAny_builtin F.entry_tuple_new ?_⟩)); rw [Around.under_plainId F.plain_tuple_new _]
  have e1 := sub_tuple_self
  have e2 := init_tuple_lookup
  have e3 := madeHere_tuple
  have e4 : s.TypeIs (.ref r) "range" := ⟨_, hr, rfl⟩
  wp_walk using wpAny_typeOf e4, rg_collect (A := A.in1) hh hr hsmall hn hlen
  intro h' tk acc hk hacc
  show wpAny _ _ (Builtin.Tuple.tupleExact acc.toList.toArray >>= fun v => ret v) _ _ _
  unfold Builtin.Tuple.tupleExact; refine wpAny_bind (wpAny_newObj_type ?_ (by show acc.toList.toArray.size ≤ sizeLine; simp only [Array.toArray_toList]; rw [hacc.1, sizeLine_eq]; omega))
  refine wpAny_pure ?_
  rw [show acc.toList.toArray = acc by simp]
  exact hQ h' tk acc hk hacc
theorem call_tuple_rg {r : Addr} {a b c : Int} {t u v : Tok} {n : Nat} {Q : Value → Shared → Prop} (hh : A.handled = none) (hr : IsRange s.heap r a b c t u v) (hsmall : Builtin.Range.small a b c = true) (hn : Builtin.Range.rangeSize a b c = n) (hlen : n ≤ 2 ^ 24)
    (hQ : ∀ (h' : Heap) (tk : Nat) (acc : Array Value), (∀ b o, s.heap.get? b = some o → h'.get? b = some o) → ItemsOf (fun i v => ∃ t, v = .int (a + i * c) t) acc n → Q (.ref h'.objs.size) { s with heap := h'.push { cls := .type "tuple", data := .seq acc }, toks := tk }) :
    wpAny (model prog w) A (call (.type "tuple") [.ref r]) Q E s := by
  refine callType_codes (Q₁ := fun obj s₁ => s₁.TypeIs obj "tuple" ∧ Q obj s₁) F.called_tuple (F.typeCall_tuple_1 _) F.entry_object_init
      (rg_tuple_new (A := A.in1) hh hr hsmall hn hlen fun h' tk acc hk hacc => ⟨⟨_, Heap.get?_push_size _ rfl, rfl⟩, hQ h' tk acc hk hacc⟩) fun obj s₁ h₁ => ?_
  exact ⟨h₁.1, F.args_object_init_2 obj _, object_init_meets F.called_tuple.init.lookup F.called_tuple.made (by decide) prog w A.in1 _ s₁ ⟨h₁.1, rfl, h₁.2⟩⟩
end
end Tn
namespace L2
open PySem PySem.Spec PyProof.Rows
theorem rng_vals {lo : Int} {n : Nat} {acc : Array Value} (hacc : ItemsOf (fun i v => ∃ t, v = Value.int (lo + i * 1) t) acc n) : Vals ((List.range n).map fun (i : Nat) => V.int (lo + i)) acc.toList := by
  have gen : ∀ (l : List Value) (k : Nat), (∀ j w, l[j]? = some w → ∃ t, w = Value.int (lo + ((k + j : Nat) : Int)) t) → Vals ((List.range' k l.length).map fun (i : Nat) => V.int (lo + i)) l := by
    intro l
    induction l with
    | nil => intro k _; exact .nil
    | cons w l ih =>
      intro k hk
      rw [List.length_cons, List.range'_succ, List.map_cons]
      refine .cons ?_ (ih (k + 1) fun j w' e' => ?_)
      · obtain ⟨t, ht⟩ := hk 0 w rfl
        exact ⟨t, by rw [ht]; rfl⟩
      · obtain ⟨t, ht⟩ := hk (j + 1) w' (by simpa using e')
        exact ⟨t, by rw [ht, show k + (j + 1) = k + 1 + j by omega]⟩
  have e1 : acc.toList.length = n := by simpa using hacc.1
  have := gen acc.toList 0 (fun j w hj => by
    obtain ⟨t, ht⟩ := hacc.2 j w (by simpa using hj)
    exact ⟨t, by rw [ht, Int.mul_one, Nat.zero_add]⟩)
  rw [e1, ← List.range_eq_range'] at this
  exact this
section
variable {X : Cx}
theorem call_tupleRange (hc : X.calm = true) : CallR X (.type "tuple") (fun xs H Q => ∃ (p : Addr) (n : Nat), xs = [.ref p] ∧ H p = some (.rng 0 n) ∧ n ≤ 1000000 ∧ ∀ l, H l = none → Q (.ref l) (upd H l (.tup ((List.range n).map fun (i : Nat) => V.int (0 + i))))) := by
  intro pins s σ H xs us Q I r h
  obtain ⟨p, n, rfl, hp, hn, q⟩ := h
  obtain ⟨u, rfl, rx⟩ := vals1 r
  cases rx
  obtain ⟨t, u, v, e⟩ := (show ∃ t u v, s.heap.get? p = some { cls := .type "range", data := .fields #[.int 0 t, .int (n : Int) u, .int 1 v] } from I.hok p _ hp)
  have hz : n ≤ sizeLine := Nat.le_trans hn (by decide)
  refine Tn.call_tuple_rg (n := n) (I.ok.hd hc) (show IsRange s.heap p 0 (n : Int) 1 t u v from e) (small_one (by omega) (by omega) (by omega) (by omega)) (by rw [rangeSize_one]; split <;> omega) (by omega) fun h' tk acc kp hacc => ?_
  have I2 : Inv X pins σ H { s with heap := h', toks := tk } := I.kept kp
  exact ⟨.ref h'.objs.size, _, I2.laid (t' := tk) (o := .tup ((List.range n).map fun (i : Nat) => V.int (0 + i))) (fun b o e => Heap.get?_push_of_some _ e) (Nat.le_refl _) ⟨by rw [List.length_map, List.length_range]; exact hz, acc.toList, rng_vals hacc, by simpa using IsTupN.new h' acc⟩, rfl, q _ (I2.hok.fresh (Nat.le_refl _))⟩
theorem int_items : ∀ {ns : List Int} {its : List Value}, Vals (ns.map V.int) its → ∃ xs : List (Int × Tok), its = xs.map (fun p => Value.int p.1 p.2) ∧ xs.map (·.1) = ns
  | [], _, .nil => ⟨[], rfl, rfl⟩
  | n :: ns, _, .cons r t => by
    obtain ⟨xs, rfl, e⟩ := int_items t
    obtain ⟨tk, rfl⟩ := r
    exact ⟨(n, tk) :: xs, rfl, by rw [List.map_cons, e]⟩
theorem sum_ints {prog : Program} {w : World} {A : Around} {E : Value → Shared → Prop} {s : Shared} {l : Addr} {xs : Array (Int × Tok)} {Q : Value → Shared → Prop} (hh : A.handled = none) (hl : s.heap.IsList l (intItems xs))
    (h : ∀ h' tk t', (∀ b o, s.heap.get? b = some o → h'.get? b = some o) → Q (.int (preSum (numAt xs) xs.size) t') { s with heap := h', toks := tk }) : wpAny (model prog w) A (call (.builtin "sum") [.ref l]) Q E s := by
  refine call_sum_walkG (iter_intList hl fun s₂ e st hfp hlI => ?_)
  subst e
  refine ⟨_, _, _, _, _, _, numAt xs, rfl, Walks.list (A := A.in1) hh _ l hlI (intItems xs), st, hfp, (fun _ _ => intItems_at), fun h' tk t' hk => ?_⟩
  have := h h' tk t' (old_kept hk)
  simpa [intItems] using this
theorem call_sumL (hc : X.calm = true) : CallR X (.builtin "sum") (fun vs H Q => ∃ (p : Addr) (ns : List Int), vs = [.ref p] ∧ SqL X.K H p (ns.map V.int) ∧ Q (.int ns.sum) H) := by
  intro pins s σ H xs us Q I r h
  obtain ⟨p, ns, rfl, hp, q⟩ := h
  obtain ⟨u, rfl, rx⟩ := vals1 r
  cases rx
  obtain ⟨its, rv, pl, _⟩ := I.list hp
  obtain ⟨zs, rfl, hz⟩ := int_items rv
  have hl : s.heap.IsList p (intItems zs.toArray) := by
    have := pl.isList
    simpa [intItems] using this
  refine sum_ints (I.ok.hd hc) hl fun h' tk t' kp => ⟨.int ns.sum, H, I.kept kp, ⟨t', ?_⟩, q⟩
  have e : preSum (numAt zs.toArray) zs.toArray.size = ns.sum := by
    rw [preSum_eq, ← hz]
    simp only [List.size_toArray]
    rw [List.take_of_length_le (by simp)]
  rw [e]
def eqK (x y : V) : Option Bool := if flatV x && flatV y then some (eqV x y) else if x = y then (match x with | .ref _ => some true | _ => none) else none
theorem eqK_at {A : Around} {s : Shared} {x y : V} {u v : Value} {b : Bool} (h : eqK x y = some b) (rx : RelV x u) (ry : RelV y v) : SeqAt.EqAt A s u v b := by
  unfold eqK at h
  split at h
  · rename_i hf
    cases h
    have hf' : flatV x = true ∧ flatV y = true := by simpa using hf
    exact eqAt_V rx ry hf'.1 hf'.2
  · split at h
    · rename_i e
      subst e
      cases x with
      | ref a =>
        cases h
        obtain rfl : u = Value.ref a := rx
        obtain rfl : v = Value.ref a := ry
        exact SeqAt.EqAt.same _
      | _ => cases h
    · cases h
def eqKs : List V → List V → Option Bool
  | [], [] => some true
  | x :: xs, y :: ys => (eqK x y).bind fun b => (eqKs xs ys).map fun c => b && c
  | _, _ => none
theorem eqKs_get : ∀ {xs ys : List V} {b : Bool}, eqKs xs ys = some b → xs.length = ys.length ∧ ∃ e : Nat → Bool, (∀ j x y, xs[j]? = some x → ys[j]? = some y → eqK x y = some (e j)) ∧ (List.range xs.length).all e = b
  | [], [], b, h => by cases h; exact ⟨rfl, fun _ => true, (fun _ _ _ e => nomatch e), rfl⟩
  | x :: xs, y :: ys, b, h => by
    unfold eqKs at h
    obtain ⟨b1, h1, h⟩ := Option.bind_eq_some_iff.mp h
    obtain ⟨b2, h2, rfl⟩ := Option.map_eq_some_iff.mp h
    obtain ⟨hl, e, he, ha⟩ := eqKs_get h2
    refine ⟨by simp [hl], fun j => match j with | 0 => b1 | j + 1 => e j, fun j a c ea ec => ?_, ?_⟩
    · cases j with
      | zero => simp only [List.getElem?_cons_zero, Option.some.injEq] at ea ec; subst ea ec; exact h1
      | succ j => simp only [List.getElem?_cons_succ] at ea ec; exact he j a c ea ec
    · rw [List.length_cons, List.range_succ_eq_map, List.all_cons, List.all_map, ← ha]
      rfl
  | [], _ :: _, _, h => nomatch h
  | _ :: _, [], _, h => nomatch h
def rEqS (K : PySem.W.Frag) (neg : Bool) : R2 := fun x y H Q => ∃ a b xs ys, x = .ref a ∧ y = .ref b ∧ SqL K H a xs ∧ SqL K H b ys ∧ ((xs.length ≠ ys.length ∧ Q (.bl neg) H) ∨ ∃ e, eqKs xs ys = some e ∧ Q (.bl (if neg then !e else e)) H)
theorem items_eq {xs ys : List V} {its its2 : List Value} {A : Around} {s : Shared} {e : Nat → Bool} (r1 : Vals xs its) (r2 : Vals ys its2) (he : ∀ j x y, xs[j]? = some x → ys[j]? = some y → eqK x y = some (e j)) :
    ∀ j (h1 : j < its.toArray.size) (h2 : j < its2.toArray.size), SeqAt.EqAt A s its.toArray[j] its2.toArray[j] (e j) := fun j h1 h2 => by
  have l1 := r1.length
  have l2 := r2.length
  have h1' : j < xs.length := by rw [l1]; simpa using h1
  have h2' : j < ys.length := by rw [l2]; simpa using h2
  obtain ⟨v1, e1, rv1⟩ := r1.get (i := j) (x := xs[j]) (by simp [h1'])
  obtain ⟨v2, e2, rv2⟩ := r2.get (i := j) (x := ys[j]) (by simp [h2'])
  have i1 : its.toArray[j] = v1 := by
    have := (List.getElem?_eq_some_iff.mp e1).2
    simpa using this
  have i2 : its2.toArray[j] = v2 := by
    have := (List.getElem?_eq_some_iff.mp e2).2
    simpa using this
  rw [i1, i2]
  exact eqK_at (he j xs[j] ys[j] (by simp [h1']) (by simp [h2'])) rv1 rv2
theorem op_eqL (hu : X.A.units < cLine) : OpR X (compareOp .Eq) (rEqS X.K false) := by
  intro pins s σ H x y v u Q I rx ry h
  obtain ⟨a, b, xs, ys, rfl, rfl, ha, hb, h⟩ := h
  cases rx
  cases ry
  obtain ⟨its, r1, p1, _⟩ := I.list ha
  obtain ⟨its2, r2, p2, _⟩ := I.list hb
  have l1 := r1.length
  have l2 := r2.length
  rcases h with ⟨hl, q⟩ | ⟨k, hk, q⟩
  · exact SeqAt.eq_list_lengthsAt p1.isList p2.isList (by simp only [List.size_toArray, bne_iff_ne]; omega) hu ⟨.bl false, H, I, rfl, q⟩
  · obtain ⟨hl, e, he, hall⟩ := eqKs_get hk
    refine SeqAt.eq_listAt (e := e) p1.isList p2.isList (by simp only [List.size_toArray]; omega) hu (items_eq r1 r2 he) ⟨.bl k, H, I, ?_, q⟩
    show Value.bool _ = Value.bool k
    rw [← hall, List.size_toArray, ← l1]
theorem op_neTI (hu : X.A.units < cLine) : OpR X (compareOp .NotEq) (fun x y H Q => ∃ (a b : Addr) (ns ms : List Int), x = .ref a ∧ y = .ref b ∧ SqT X.K H a (ns.map V.int) ∧ SqT X.K H b (ms.map V.int) ∧ Q (.bl (!decide (ns = ms))) H) := by
  intro pins s σ H x y v u Q I rx ry h
  obtain ⟨a, b, ns, ms, rfl, rfl, ha, hb, q⟩ := h
  cases rx
  cases ry
  obtain ⟨its, r1, p1, _⟩ := I.tuple ha
  obtain ⟨its2, r2, p2, _⟩ := I.tuple hb
  have l1 := r1.length
  have l2 := r2.length
  rw [List.length_map] at l1 l2
  have he : ∀ j x y, (ns.map V.int)[j]? = some x → (ms.map V.int)[j]? = some y → eqK x y = some (decide (ns[j]? = ms[j]?)) := fun j x y e1 e2 => by
    rw [List.getElem?_map] at e1 e2
    obtain ⟨n, h1, rfl⟩ := Option.map_eq_some_iff.mp e1
    obtain ⟨m, h2, rfl⟩ := Option.map_eq_some_iff.mp e2
    have hh : (ns[j]? = ms[j]?) ↔ n = m := by rw [h1, h2]; exact ⟨Option.some.inj, fun z => by rw [z]⟩
    by_cases hnm : n = m
    · rw [decide_eq_true (hh.mpr hnm)]
      simp [eqK, flatV, eqV, hnm]
    · rw [decide_eq_false (fun z => hnm (hh.mp z))]
      simp [eqK, flatV, eqV, hnm]
  refine SeqAt.RcNeAt.tuples (e := fun j => decide (ns[j]? = ms[j]?)) (show s.heap.IsTuple a its.toArray from p1) (show s.heap.IsTuple b its2.toArray from p2) hu (items_eq r1 r2 he) X.prog X.w X.xe _ ⟨.bl (!decide (ns = ms)), H, I, ?_, q⟩
  show Value.bool _ = Value.bool _
  congr 2
  rw [Bool.eq_iff_iff]
  simp only [List.size_toArray, Bool.and_eq_true, List.all_eq_true, List.mem_range, decide_eq_true_eq, beq_iff_eq]
  constructor
  · rintro ⟨h1, h2⟩
    apply List.ext_getElem?
    intro j
    by_cases hj : j < min its.length its2.length
    · exact h1 j hj
    · rw [List.getElem?_eq_none (by omega), List.getElem?_eq_none (by omega)]
  · rintro rfl
    exact ⟨fun _ _ => rfl, by omega⟩
end
theorem comp_inv {J : It} {n : Nat} {te : TE} {js : List Nat} {σ : St} {H1 : Hp} {Q : VK} {D : Addr} (P : Nat → List V → Hp → Prop) (h0 : P 0 [] (upd H1 D (.lst []))) (hD : ∀ i acc H', P i acc H' → H' D = some (.lst acc) ∧ acc.length = i) (hn : n ≤ sizeLine)
    (hgo : ∀ i acc H', i < n → P i acc H' → J.go i H') (hst : ∀ acc H', P n acc H' → J.stop n H' ∧ Q (.ref D) H')
    (hstep : ∀ i acc H' y H2 (R : VK), i < n → P i acc H' → J.yld i H' y H2 → (∀ z H5, H5 D = some (.lst acc) → P (i + 1) (acc ++ [z]) (upd H5 D (.lst (acc ++ [z]))) → R z H5) → te (some y :: js.map fun j => (σ[j]?).getD none) H2 R) :
    CompW J (gName 0) tYes te js σ H1 Q D := by
  refine ⟨fun i m acc σ' H' => m = n - i ∧ i ≤ n ∧ P i acc H' ∧ ∃ v, σ' = v :: js.map fun j => (σ[j]?).getD none, ⟨n, by simp, Nat.zero_le _, h0, none, rfl⟩, ?_⟩
  rintro i m acc σ' H' ⟨rfl, hi, hP, v, rfl⟩
  refine ⟨(hD i acc H' hP).1, ?_⟩
  by_cases hlt : i < n
  · refine .inr ⟨hgo i acc H' hlt hP, by rw [(hD i acc H' hP).2]; omega, fun y H2 hy => ?_⟩
    show te (some y :: js.map fun j => (σ[j]?).getD none) _ _
    exact hstep i acc H' y H2 _ hlt hP hy fun z H5 e1 e2 => ⟨e1, n - (i + 1), by omega, rfl, hlt, e2, _, rfl⟩
  · have e : i = n := by omega
    subst e
    exact .inl (hst acc H' hP)
end L2
namespace L2
open PySem PySem.Spec PyProof.Rows
section
variable {X : Cx}
end
end L2
namespace L2
open PySem
def csB (S scope : Scope) (x : Str) (N P : List Str) (js : List Nat) : Bool :=
  (scope.kind == .function) && scope.names.all (fun y => !(y.2 == .cell)) && scope.names.all (fun y => !(y.2 == .local) || scope.names.lookup y.1 == some .local) &&
  scope.names.all (fun y => !(y.2 == .free) || (S.names.lookup y.1 == some .cell || S.names.lookup y.1 == some .free)) && (scope.names.lookup x == some .local) && decide N.Nodup && (N == x :: (js.map fun j => (P[j]?).getD x)) &&
  js.all (fun j => match P[j]? with | some y => scope.names.lookup y == some .free | none => false)
theorem cs_of {S scope : Scope} {x : Str} {N P : List Str} {js : List Nat} (h : csB S scope x N P js = true) : CScope S scope x N P js := by
  unfold csB at h
  simp only [Bool.and_eq_true, List.all_eq_true, beq_iff_eq, decide_eq_true_eq, Bool.or_eq_true, Bool.not_eq_true'] at h
  obtain ⟨⟨⟨⟨⟨⟨⟨h1, h2⟩, h3⟩, h4⟩, h5⟩, h6⟩, h7⟩, h8⟩ := h
  refine ⟨h1, fun y hy e => ?_, fun y hy e => ?_, fun y hy e => ?_, h5, h6, h7, fun j hj => ?_⟩
  · have := h2 y hy; rw [e] at this; exact absurd this (by decide)
  · rcases h3 y hy with z | z
    · rw [e] at z; exact absurd z (by decide)
    · exact z
  · rcases h4 y hy with z | z
    · rw [e] at z; exact absurd z (by decide)
    · exact z
  · have := h8 j hj
    split at this
    · rename_i y ey
      exact ⟨y, ey, by simpa using this⟩
    · cases this
end L2
namespace L2
open PySem PySem.Spec PyProof.Rows
end L2
namespace L2
open PySem
end L2
namespace Tn
open PySem L2
def lens (xss : List (List Int)) : List Int := xss.map fun x => (x.length : Int)
def before (xss : List (List Int)) (w : Nat) : Int := ((lens xss).take w).sum
def togF (ord : List Int) (xss : List (List Int)) : List Int := ord.flatMap fun w => (xss.getD w.toNat []).map fun z => before xss w.toNat + z
theorem lens_get {xss : List (List Int)} {i : Nat} {x : List Int} (h : xss[i]? = some x) : (lens xss)[i]? = some (x.length : Int) := by
  unfold lens; rw [List.getElem?_map, h]; rfl
theorem before_zero (xss : List (List Int)) : before xss 0 = 0 := by simp [before]
theorem before_succ {xss : List (List Int)} {i : Nat} {x : List Int} (h : xss[i]? = some x) : before xss (i + 1) = before xss i + (x.length : Int) := by
  unfold before
  rw [List.take_succ, lens_get h]
  simp
theorem togF_append (ord : List Int) (w : Int) (xss : List (List Int)) : togF (ord ++ [w]) xss = togF ord xss ++ (xss.getD w.toNat []).map fun z => before xss w.toNat + z := by
  unfold togF
  rw [List.flatMap_append]
  simp
def Tups (H : Hp) (ps : List Addr) (xss : List (List Int)) : Prop := Paired (fun p xs => H p = some (.tup (xs.map V.int))) ps xss
theorem Tups.len {H : Hp} : ∀ {ps : List Addr} {xss : List (List Int)}, Tups H ps xss → ps.length = xss.length
  | _, _, .nil => rfl
  | _, _, .cons _ t => by have := Tups.len t; simp [this]
theorem Tups.get {H : Hp} : ∀ {ps : List Addr} {xss : List (List Int)} {i : Nat} {p : Addr}, Tups H ps xss → ps[i]? = some p → ∃ xs, xss[i]? = some xs ∧ H p = some (.tup (xs.map V.int))
  | _, _, _, _, .nil, h => nomatch h
  | _, _, 0, _, .cons e _, h => by cases h; exact ⟨_, rfl, e⟩
  | _, _, i + 1, _, .cons _ t, h => Tups.get (i := i) t (by simpa using h)
theorem Tups.mono {H H' : Hp} (s : Same H H') : ∀ {ps : List Addr} {xss : List (List Int)}, Tups H ps xss → Tups H' ps xss
  | _, _, .nil => .nil
  | _, _, .cons e t => .cons (s _ _ e) (Tups.mono s t)
theorem Tups.app {H : Hp} : ∀ {ps qs : List Addr} {xss yss : List (List Int)}, Tups H ps xss → Tups H qs yss → Tups H (ps ++ qs) (xss ++ yss)
  | _, _, _, _, .nil, t => t
  | _, _, _, _, .cons e t, t' => .cons e (Tups.app t t')
theorem refs_get {ps : List Addr} {i : Nat} {y : V} (h : (ps.map V.ref)[i]? = some y) : ∃ p, ps[i]? = some p ∧ y = V.ref p := by
  rw [List.getElem?_map] at h
  obtain ⟨p, h1, h2⟩ := Option.map_eq_some_iff.mp h
  exact ⟨p, h1, h2.symm⟩
def spFirsts (K : PySem.W.Frag) : Sp := fun vs H Q _ => ∃ (l : Addr) (ps : List Addr) (xss : List (List Int)), vs = [.ref l] ∧ SqL K H l (ps.map V.ref) ∧ ps.length ≤ 1000 ∧ Tups H ps xss ∧
  ∀ (f : Addr) (H' : Hp), H f = none → H' f = some (.lst (((List.range xss.length).map fun i => before xss i).map V.int)) → Same H H' → Q (.ref f) H'
def spPut (K : PySem.W.Frag) (C : Addr) : Sp := fun vs H Q E => ∃ (o l : Addr) (ord : List Int) (ps : List Addr) (xss : List (List Int)), vs = [.ref o, .ref l] ∧ SqT K H o (ord.map V.int) ∧ ord.length ≤ 1000 ∧ (∀ w ∈ ord, 0 ≤ w ∧ w < ord.length) ∧
  SqL K H l (ps.map V.ref) ∧ ps.length ≤ 1000 ∧ Tups H ps xss ∧ (∀ x ∈ xss, x.length ≤ 1000) ∧
  (xss.length = ord.length → (lens xss).sum ≤ 60 → ∀ (t : Addr) (H' : Hp), H t = none → H' t = some (.tup ((togF ord xss).map V.int)) → Same H H' → Q (.ref t) H') ∧
  (¬ (xss.length = ord.length ∧ (lens xss).sum ≤ 60) → ∀ H', Same H H' → E (.ref C) none H')
theorem pass0V {P : Program} {w : World} {X : Cx} : Passes (CXV P w) X E0 := fun _ _ _ _ _ _ _ ⟨_, _, _, _, _, _, _, _, _, _, _, _, _, h⟩ => h.elim
end Tn
namespace Tn
open PySem L2
theorem boot_sum : bootBuiltins "sum" = some (.builtin "sum") := by decide +kernel
theorem boot_max : bootBuiltins "max" = some (.builtin "max") := by decide +kernel
theorem boot_min : bootBuiltins "min" = some (.builtin "min") := by decide +kernel
def rLen (K : PySem.W.Frag) : List V → Hp → VK → Prop := fun xs H Q => ∃ p ys, xs = [.ref p] ∧ (SqL K H p ys ∨ SqT K H p ys) ∧ Q (.int ys.length) H
theorem call_lenK {X : Cx} : CallR X (.builtin "len") (rLen X.K) := call_len_seq
end Tn
namespace Tn
open PySem L2
theorem togF_len {xss : List (List Int)} (h : ∀ x ∈ xss, x.length ≤ 1000) : ∀ ord : List Int, (togF ord xss).length ≤ 1000 * ord.length
  | [] => by simp [togF]
  | w :: r => by
    have ih := togF_len h r
    have e : togF (w :: r) xss = ((xss.getD w.toNat []).map fun z => before xss w.toNat + z) ++ togF r xss := by unfold togF; rw [List.flatMap_cons]
    rw [e, List.length_append, List.length_map, List.length_cons]
    have : (xss.getD w.toNat []).length ≤ 1000 := by
      rw [List.getD_eq_getElem?_getD]
      cases e : xss[w.toNat]? with
      | none => simp
      | some x => exact h x (List.mem_of_getElem? e)
    omega
theorem line_mil {n : Nat} (h : n ≤ 10000000) : n ≤ sizeLine := by rw [sizeLine_eq]; omega
theorem take_succ_get {ord : List Int} {i : Nat} {w : Int} (h : ord[i]? = some w) : ord.take (i + 1) = ord.take i ++ [w] := by
  rw [List.take_succ, h]; rfl
theorem map_getD (xs : List Int) (f : Int → V) : (List.range xs.length).map (fun j => f (xs.getD j 0)) = xs.map f := by
  apply List.ext_getElem
  · simp
  · intro j h1 h2
    have hj : j < xs.length := by simpa using h2
    simp only [List.getElem_map, List.getElem_range]
    rw [List.getD_eq_getElem?_getD, List.getElem?_eq_getElem hj]
    rfl
theorem map_lens (xss : List (List Int)) : (List.range xss.length).map (fun i => V.int ((xss.getD i []).length : Nat)) = (lens xss).map V.int := by
  apply List.ext_getElem
  · simp [lens]
  · intro j h1 h2
    have hj : j < xss.length := by simpa using h1
    simp only [lens, List.getElem_map, List.getElem_range]
    rw [List.getD_eq_getElem?_getD, List.getElem?_eq_getElem hj]
    rfl
theorem at_refs {ps : List Addr} {j : Nat} {p : Addr} (h : ps[j]? = some p) : atI (ps.map V.ref) (j : Int) = some (V.ref p) := atI_nat (by rw [List.getElem?_map, h]; rfl)
end Tn
namespace Tn
open PySem L2
end Tn
namespace Tn
open PySem L2
structure Excs (K : PySem.W.Frag) (T C o1 o2 o3 o4 r1 r2 r3 : Addr) : Prop where
  xC : PySem.W.excIn K C bmVE "ValueError.__new__" = true
  tx : ExcTxt K C
  ct : CatTxt K T
  mr : PySem.W.mroIn K C (.ref T) = some true
  ve : PySem.W.kitOne K (.ref C) (.type "ValueError") = some true
  a4 : PySem.W.kitAny K (.ref C) [.ref o1, .ref o2, .ref o3, .ref o4] = some false
  a3 : PySem.W.kitAny K (.ref C) [.ref r1, .ref r2, .ref r3] = some false
end Tn
namespace Tn
open PySem L2
theorem gname_go {i : Nat} {v : V} {σ : L2.St} {H : Hp} {Q : L2.St → Hp → Prop} (h : Q (σ.set i (some v)) H) : gName i v σ H Q := h
theorem seq_if {c : TT} {t u r : TS} {D : Ends} {σ : L2.St} {H : Hp} (C : L2.St → Hp → Prop) (hrest : ∀ σ' Hx, C σ' Hx → r D σ' Hx) (hmain : (∀ σ' Hx, C σ' Hx → r D σ' Hx) → tIfS c t u { D with nx := r D } σ H) : tSeq (tIfS c t u) r D σ H := hmain hrest
end Tn
namespace Tn
open PySem L2
theorem Tups.updL {H : Hp} {op : Addr} {us : List V} {o : HO} (e : H op = some (.lst us)) : ∀ {ps : List Addr} {xss : List (List Int)}, Tups H ps xss → Tups (upd H op o) ps xss
  | _, _, .nil => .nil
  | _, _, .cons q t => .cons (by rw [upd_ne (ne_of q e (by intro z; cases z))]; exact q) (Tups.updL e t)
end Tn
namespace Tn
open PySem PySem.Spec PyProof.Rows
theorem tupIter_atL {g g' : Heap} {it tp : Addr} {k : Nat} (p : g.IsListIter it tp k) (e : ∀ o, g.get? it = some o → g'.get? it = some o) : g'.IsListIter it tp k := let ⟨o, ho, r⟩ := p; ⟨o, e _ ho, r⟩
theorem tup_atL {g g' : Heap} {tp : Addr} {xs : Array Value} (p : g.IsList tp xs) (e : ∀ o, g.get? tp = some o → g'.get? tp = some o) : g'.IsList tp xs := let ⟨o, ho, r⟩ := p; ⟨o, e _ ho, r⟩
theorem enum_newTL (tp : Addr) (xs : Array Value) (n : Nat) (dct : Option Addr) (sl : Array (Option Value)) :
    Meets (Builtin.«enumerate.__new__» ⟨[.type "enumerate", .ref tp], []⟩) (fun _ R s => s.heap.get? tp = some { cls := .type "list", dict := dct, data := .seq xs n, slots := sl } ∧
      R (.ok (.ret (.ref (s.heap.push { cls := .type "list_iterator", data := .fields #[.ref tp, .int 0 0] }).objs.size)))
        { s with heap := (s.heap.push { cls := .type "list_iterator", data := .fields #[.ref tp, .int 0 0] }).push { cls := .type "enumerate", data := .fields #[.none, .bool false, .ref s.heap.objs.size, rawInt 0, .none, .none] } }) :=
  .of_wp fun prog w A R s h => by
    obtain ⟨hp, g, d, tk, os⟩ := s; obtain ⟨q1, q2⟩ := h
    have hsub := sub_enumerate
    have qT : Heap.IsList (Shared.heap ⟨hp, g, d, tk, os⟩) tp xs := ⟨_, q1, rfl, n, rfl⟩
    wp_walk using AutoSeq1.wpAny_loadPart' q1
    refine wpAny_stack_any fun st => wpAny_pure ?_
    split
    · rename_i c _ _ _ _ _
      cases (c == Value.type "enumerate")
      · wp_walk using AutoSeq1.wpAny_loadPart' q1, wpAny_pyIter_list qT
        exact ⟨_, rfl, q2⟩
      · wp_walk using AutoSeq1.wpAny_loadPart' q1, wpAny_pyIter_list qT
        exact ⟨_, rfl, q2⟩
    · wp_walk using AutoSeq1.wpAny_loadPart' q1, wpAny_pyIter_list qT
      exact ⟨_, rfl, q2⟩
theorem call_enumTL {prog : Program} {w : World} {A : Around} {E : Value → Shared → Prop} {s : Shared} {tp : Addr} {xs : Array Value} {Q : Value → Shared → Prop} (hT : s.heap.IsList tp xs)
    (h : ∀ g, IsEnum g (s.heap.objs.size + 1) s.heap.objs.size 0 .none → g.IsListIter s.heap.objs.size tp 0 → g.objs.size = s.heap.objs.size + 2 → (∀ b o, s.heap.get? b = some o → g.get? b = some o) → Q (.ref (s.heap.objs.size + 1)) { s with heap := g }) :
    wpAny (model prog w) A (call (.type "enumerate") [.ref tp]) Q E s := by
  obtain ⟨⟨c, dct, dt, sl⟩, q1, qc, n, qd⟩ := hT
  replace qc : c = .type "list" := qc
  replace qd : dt = .seq xs n := qd
  subst qc qd
  refine callType_new F.called_enumerate (by decide) (F.typeCall_enumerate_1 _) (F.newCall_enumerate_1 _) (fun obj => F.args_object_init_2 obj _) F.entry_enumerate_new (enum_newTL tp xs n dct sl) ⟨q1, ?_⟩
  have hz : (s.heap.push { cls := .type "list_iterator", data := .fields #[.ref tp, .int 0 0] }).objs.size = s.heap.objs.size + 1 := Heap.size_push ..
  show _ ∧ _
  rw [hz]
  have he : IsEnum ((s.heap.push { cls := .type "list_iterator", data := .fields #[.ref tp, .int 0 0] }).push
      { cls := .type "enumerate", data := .fields #[.none, .bool false, .ref s.heap.objs.size, rawInt 0, .none, .none] }) (s.heap.objs.size + 1) s.heap.objs.size 0 .none := by
    have z := Heap.get?_push_size (s.heap.push { cls := .type "list_iterator", data := .fields #[.ref tp, .int 0 0] }) (o := { cls := .type "enumerate", data := .fields #[.none, .bool false, .ref s.heap.objs.size, rawInt 0, .none, .none] }) rfl
    rw [hz] at z; exact z
  exact ⟨⟨_, he, rfl⟩, h _ he ⟨_, Heap.get?_push_of_some _ (Heap.get?_push_size _ rfl), rfl, rfl⟩ (by rw [Heap.size_push, hz]) fun b o x => Heap.get?_push_of_some _ (Heap.get?_push_of_some _ x)⟩
end Tn
namespace L2
open PySem PySem.Spec PyProof.Rows
def IteL (K : PySem.W.Frag) (a : Addr) : It :=
  ⟨fun i H => ∃ xs x, SqL K H a xs ∧ xs[i]? = some x, fun i H x H' => ∃ p y, H p = none ∧ x = .ref p ∧ (∀ xs, SqL K H a xs → xs[i]? = some y) ∧ H' = upd H p (.tup [.int i, y]), fun i H => ∃ xs, SqL K H a xs ∧ xs.length = i⟩
section
variable {X : Cx}
theorem turn_enumTL {P : Program} {w : World} {K : PySem.W.Frag} {elts : List Expr} {k : Nat} {tp : Pos} (a it e : Addr) (hei : e ≠ it) :
    Turn P w K (.Tuple elts k tp) (IteL K a) [e, it] e (fun i h => (∃ old, IsEnum h e it ((i : Nat) : Int) old) ∧ h.IsListIter it a i) where
  mem := by simp
  obj := fun i h st b hb => by
    rcases List.mem_cons.mp hb with z | z
    · subst z
      obtain ⟨⟨old, q⟩, _⟩ := st
      exact ⟨_, q, fun v z => by
        have z' : Data.fields _ = Data.cell v := z
        cases z'⟩
    · have z : b = it := by simpa using z
      subst z
      obtain ⟨_, o, q, _, d⟩ := st
      exact ⟨o, q, fun v z => by rw [d] at z; cases z⟩
  keep := fun i h h' st kp => ⟨let ⟨old, q⟩ := st.1; ⟨old, kp e (by simp) _ q⟩, Tn.tupIter_atL st.2 fun o q => kp it (by simp) o q⟩
  item := by
    intro X hP hw hK hc i pins s σ H E I hf st hg
    subst hP hw hK
    obtain ⟨xs, x, hq, hx⟩ := hg
    obtain ⟨its, rv, p, hz⟩ := I.list hq
    obtain ⟨u, hu, ru⟩ := rv.get hx
    obtain ⟨⟨old, he⟩, hit⟩ := st
    have pt : s.heap.IsList a its.toArray := p.isList
    have hil : i < its.toArray.size := by
      have := (List.getElem?_eq_some_iff.mp hu).1
      simpa using this
    have hai : a ≠ it := by
      rintro rfl
      obtain ⟨o, e1, c1, _⟩ := hit
      obtain ⟨o', e2, c2, _⟩ := pt
      rw [e1] at e2; cases e2; rw [c1] at c2; exact absurd c2 (by decide +kernel)
    have hae : e ∉ [it, a] := by
      intro z
      rcases List.mem_cons.mp z with z | z
      · exact hei z
      · have z : e = a := by simpa using z
        subst z
        obtain ⟨o', e2, c2, _⟩ := pt
        rw [he] at e2; cases e2; exact absurd (show Value.type "enumerate" = Value.type "list" from c2) (by decide +kernel)
    refine wpAny_pyNext_enum_itemD (n := its.toArray.size) (Draws.list (A := X.A.in1) (I.ok.hd hc) it a hai its.toArray) he ⟨hit, pt⟩ hil hei hae fun v h' tk hv hout hst htup hsz hkp => ?_
    refine ⟨_, rfl, wpAny_letOwnedTupleGo_enum (s := { s with heap := h', toks := tk + 1 }) hout fun h2 he2 hs2 => ?_⟩
    obtain ⟨e0, e1, e2, e3, e4, e5⟩ := hf e (by simp)
    obtain ⟨i0, i1, i2, i3, i4, i5⟩ := hf it (by simp)
    have hnew : H s.heap.objs.size = none := I.hok.fresh (Nat.le_refl _)
    have helt : e < s.heap.objs.size := Heap.lt_size he
    have hitlt : it < s.heap.objs.size := by obtain ⟨o, q, _⟩ := hit; exact Heap.lt_size q
    have vu : v = u := by
      have : its.toArray[i]? = some u := by simpa using hu
      exact Option.some.inj (hv.symm.trans this)
    subst vu
    have hs2' : Heap.SameBut e h' h2 := hs2
    have up : ∀ b o, b ≠ e → b ≠ it → s.heap.get? b = some o → h2.get? b = some o := fun b o z1 z2 q => (hs2'.2 b z1).trans (hkp b o z1 z2 q)
    have htup2 : h2.get? s.heap.objs.size = some { cls := .type "tuple", data := .seq #[.int i tk, v] } := (hs2'.2 _ (Nat.ne_of_gt helt)).trans htup
    have ne : ∀ c u', H c = some u' → c ≠ e ∧ c ≠ it := fun c u' z => ⟨(fun y => by rw [y, e0] at z; cases z), (fun y => by rw [y, i0] at z; cases z)⟩
    have I1 : Inv X pins σ (upd H s.heap.objs.size (.tup [.int i, x])) { s with heap := h2, toks := tk + 1 } := by
      refine I.step (g' := s.gens) (d' := s.drawn) (ch := [e, it]) (fun b hb => ?_) (fun b o _ _ hb q _ => up b o (fun z => hb (by simp [z])) (fun z => hb (by simp [z])) q)
        (fun b o _ _ hb q _ => ⟨o.slots, up b o (fun z => hb (by simp [z])) (fun z => hb (by simp [z])) q⟩) (fun b o _ q n => by rw [upd_ne (Nat.ne_of_lt (Heap.lt_size q))]; exact n)
        (fun b o hb q => ⟨o, up b o (fun z => hb (by simp [z])) (fun z => hb (by simp [z])) q⟩) (fun b ys q => by rw [upd_ne (ne_of_none q hnew)]; exact q) (fun b o ys q => by rw [upd_ne (ne_of_none q hnew)]; exact q)
        (fun b ps q => ⟨#[], by rw [upd_ne (ne_of_none q hnew), q]; simp⟩) (fun m hm => ?_) (fun b ob q => ?_) I.bare
      · rcases List.mem_cons.mp hb with z | z
        · subst z; exact ⟨e3, e1, e4, e5⟩
        · have z : b = it := by simpa using z
          subst z; exact ⟨i3, i1, i4, i5⟩
      · obtain ⟨o, es, ep, ho, r⟩ := hm
        exact ⟨o, es, ep, up _ o (Ne.symm e1) (Ne.symm i1) ho, r⟩
      · by_cases hb : b = s.heap.objs.size
        · subst hb
          rw [upd_same] at q; cases q
          exact ⟨(by show 2 ≤ sizeLine; decide), [.int i tk, v], .cons ⟨_, rfl⟩ (.cons ru .nil), ⟨_, htup2, rfl, ⟨_, rfl⟩, rfl⟩⟩
        · rw [upd_ne hb] at q
          refine (I.hok b ob q).stay (fun c v' hc' q' => ?_) (fun c z => by rw [upd_ne (ne_of_none z hnew)]; exact z) fun c ys z => by rw [upd_ne (ne_of_none z hnew)]; exact z
          have hc2 : c ≠ e ∧ c ≠ it := by
            rcases hc' with z | z
            · subst z; exact ne _ _ q
            · exact ne _ _ z
          exact up c v' hc2.1 hc2.2 q'
    refine ⟨.ref s.heap.objs.size, _, I1, rfl, ⟨s.heap.objs.size, x, hnew, rfl, fun ys hy => by rw [I.list_inj hy hq]; exact hx, rfl⟩, ⟨⟨v, by simpa using he2⟩, Tn.tupIter_atL hst.1 fun o q => (hs2'.2 it (Ne.symm hei)).trans q⟩, fun b hb => ?_⟩
    rw [upd_ne (by
      rcases List.mem_cons.mp hb with z | z
      · subst z; exact Nat.ne_of_lt helt
      · have z : b = it := by simpa using z
        subst z; exact Nat.ne_of_lt hitlt)]
    exact (hf b hb).1
  done := by
    intro X hP hw hK hc i pins s σ H E I hf st hg
    subst hP hw hK
    obtain ⟨xs, hq, hx⟩ := hg
    obtain ⟨its, rv, p, hz⟩ := I.list hq
    obtain ⟨⟨old, he⟩, hit⟩ := st
    have hl := rv.length
    have pt : s.heap.IsList a its.toArray := p.isList
    have hai : a ≠ it := by
      rintro rfl
      obtain ⟨o, e1, c1, _⟩ := hit
      obtain ⟨o', e2, c2, _⟩ := pt
      rw [e1] at e2; cases e2; rw [c1] at c2; exact absurd c2 (by decide +kernel)
    have hi : i = its.toArray.size := by simp; omega
    obtain ⟨i0, i1, i2, i3, i4, i5⟩ := hf it (by simp)
    refine wpAny_pyNext_enum_endD (Draws.list (A := X.A.in1) (I.ok.hd hc) it a hai its.toArray) he ⟨by rw [← hi]; exact hit, pt⟩ fun h' hx => ⟨rfl, I.turned (t' := s.toks) (fun b o hb q => hx b o hb q) i0 i1 i3 i4 i5⟩
  self := fun _ i s Q E st h => by
    obtain ⟨⟨old, q⟩, _⟩ := st
    exact wpAny_pyIter_enum q h
def iEnumL (K : PySem.W.Frag) (ta : TA) : TI := fun σ H R => ta σ H fun vs H1 => ∃ a, vs = [.ref a] ∧ (∃ xs, SqL K H1 a xs) ∧ R (IteL K a) H1
theorem pi_enumTL {e : Expr} {ta : TA} {p pos tp : Pos} {elts : List Expr} {k : Nat} (hg : Gl X "enumerate") (hm : X.mg "enumerate" = none) (ha : PA X [e] ta) (hs : starEach [e] X.env = [(false, eval e X.env)] := by rfl) :
    PI X (.Tuple elts k tp) (.Call (.Name "enumerate" p) [e] [] pos) (iEnumL X.K ta) := by
  intro pins s σ H R I h
  refine Call_ (ld_blt I hg hm (by decide +kernel : bootBuiltins "enumerate" = some (.type "enumerate")) (PyProof.Rows.callWith_type1 (thn (ha pos pins s σ H _ I h) fun us s1 ⟨vs, H1, I1, r1, q1⟩ => ?_) hs rfl))
  obtain ⟨a, rfl, ⟨xs, hq⟩, q⟩ := q1
  obtain ⟨u, rfl, rx⟩ := vals1 r1
  cases rx
  obtain ⟨its, rv, pl, _⟩ := I1.list hq
  refine Tn.call_enumTL pl.isList fun g he hit hsz kp => ?_
  refine wpAny_pyIter_enum (s := { s1 with heap := g }) he ?_
  have I2 : Inv X pins σ H1 { s1 with heap := g } := I1.kept (t' := s1.toks) kp
  have fr : ∀ b, s1.heap.objs.size ≤ b → FpOk X pins H1 b := fun b hb => I1.fpOk hb (I1.hok.fresh hb)
  refine ⟨_, [s1.heap.objs.size + 1, s1.heap.objs.size], _, IteL X.K a, H1, rfl, I2, turn_enumTL a s1.heap.objs.size (s1.heap.objs.size + 1) (Nat.succ_ne_self _), ⟨⟨.none, he⟩, hit⟩, fun b hb => ?_, q⟩
  rcases List.mem_cons.mp hb with z | z
  · rw [z]; exact fr _ (Nat.le_succ _)
  · have z : b = s1.heap.objs.size := by simpa using z
    rw [z]; exact fr _ (Nat.le_refl _)
theorem for_enumL {K : PySem.W.Frag} {a : Addr} {xs : List V} {g : TG} {tb : TS} {D : Ends} {σ : St} {H : Hp} (Pv : Nat → St → Hp → Prop) (h0 : Pv 0 σ H) (hl : ∀ i σ H, i ≤ xs.length → Pv i σ H → SqL K H a xs)
    (hs : ∀ i x σ H p, xs[i]? = some x → Pv i σ H → H p = none → g (.ref p) σ (upd H p (.tup [.int i, x])) fun σ2 H2 => tb { D with nx := Pv (i + 1), ct := Pv (i + 1), bk := D.nx } σ2 H2) (hd : ∀ σ H, Pv xs.length σ H → D.nx σ H) :
    ∃ W : Nat → Nat → St → Hp → Prop, (∃ m, W 0 m σ H) ∧ ∀ i m σ H, W i m σ H →
      ((IteL K a).stop i H ∧ D.nx σ H) ∨ ((IteL K a).go i H ∧ ∃ N : St → Hp → Prop, (∀ σ' H', N σ' H' → ∃ m', m' < m ∧ W (i + 1) m' σ' H') ∧ ∀ x H', (IteL K a).yld i H x H' → g x σ H' fun σ2 H2 => tb { D with nx := N, ct := N, bk := D.nx } σ2 H2) := by
  refine ⟨fun i m σ H => m = xs.length - i ∧ i ≤ xs.length ∧ Pv i σ H, ⟨xs.length, by simp, Nat.zero_le _, h0⟩, ?_⟩
  rintro i m σ H ⟨rfl, hi, p⟩
  have q := hl i σ H hi p
  by_cases hlt : i < xs.length
  · refine .inr ⟨⟨xs, xs[i], q, by simp [hlt]⟩, Pv (i + 1), fun σ' H' p' => ⟨xs.length - (i + 1), by omega, rfl, hlt, p'⟩, fun x H' y => ?_⟩
    obtain ⟨pp, yy, hp, rfl, hy, rfl⟩ := y
    exact hs i yy σ H pp (hy xs q) p hp
  · have e : i = xs.length := by omega
    subst e
    exact .inl ⟨⟨xs, q, rfl⟩, hd σ H p⟩
end
end L2
namespace L2
open PySem PySem.Spec PyProof.Rows
section
variable {X : Cx}
theorem call_sortedL : CallR X (.builtin "sorted") (fun xs H Q => ∃ (p : Addr) (ns : List Int), xs = [.ref p] ∧ SqL X.K H p (ns.map V.int) ∧ ns.length < 64 ∧
    ∀ (ns' : List Int) (l : Addr), ns'.Perm ns → ns'.Pairwise (· ≤ ·) → H l = none → Q (.ref l) (upd H l (.lst (ns'.map V.int)))) := by
  intro pins s σ H xs us Q I r h
  obtain ⟨p, ns, rfl, hp, hn, q⟩ := h
  obtain ⟨u, rfl, rx⟩ := vals1 r
  cases rx
  obtain ⟨its, rv, pl, hz⟩ := I.list hp
  have hlen := rv.length
  rw [List.length_map] at hlen hz
  refine sorted_ints pl.isList (intsAre_of rv) (by omega) fun out ns' a1 a2 a3 => ?_
  obtain ⟨e, he⟩ := sortedAll_at s.heap its out
  have kp : ∀ b o, s.heap.get? b = some o → (sortedAll s.heap its out).get? b = some o := fun b o z => sortedAll_old z
  have hnew : s.heap.objs.size ≤ s.heap.objs.size + 1 := Nat.le_succ _
  refine ⟨.ref (s.heap.objs.size + 1), _, I.laid (t' := s.toks) (o := .lst (ns'.map V.int)) kp hnew ⟨by rw [List.length_map, a2.length_eq]; exact hz, out.toList, e, vals_ints a1, ?_⟩, rfl, q ns' _ a2 a3 (I.hok.fresh hnew)⟩
  simpa [seqObj] using he
end
theorem comp_invF {J : It} {n : Nat} {tc : TT} {te : TE} {js : List Nat} {σ : St} {H1 : Hp} {Q : VK} {D : Addr} (P : Nat → List V → Hp → Prop) (h0 : P 0 [] (upd H1 D (.lst []))) (hD : ∀ i acc H', P i acc H' → H' D = some (.lst acc) ∧ acc.length ≤ i) (hn : n ≤ sizeLine)
    (hgo : ∀ i acc H', i < n → P i acc H' → J.go i H') (hst : ∀ acc H', P n acc H' → J.stop n H' ∧ Q (.ref D) H')
    (hstep : ∀ i acc H' y H2 (R0 : Hp → Prop) (R1 : VK), i < n → P i acc H' → J.yld i H' y H2 → (∀ H4, P (i + 1) acc H4 → R0 H4) → (∀ z H5, H5 D = some (.lst acc) → P (i + 1) (acc ++ [z]) (upd H5 D (.lst (acc ++ [z]))) → R1 z H5) →
      tc (some y :: js.map fun j => (σ[j]?).getD none) H2 fun b H4 => if b = true then te (some y :: js.map fun j => (σ[j]?).getD none) H4 R1 else R0 H4) :
    CompW J (gName 0) tc te js σ H1 Q D := by
  refine ⟨fun i m acc σ' H' => m = n - i ∧ i ≤ n ∧ P i acc H' ∧ ∃ v, σ' = v :: js.map fun j => (σ[j]?).getD none, ⟨n, by simp, Nat.zero_le _, h0, none, rfl⟩, ?_⟩
  rintro i m acc σ' H' ⟨rfl, hi, hP, v, rfl⟩
  refine ⟨(hD i acc H' hP).1, ?_⟩
  by_cases hlt : i < n
  · refine .inr ⟨hgo i acc H' hlt hP, by have := (hD i acc H' hP).2; omega, fun y H2 hy => ?_⟩
    show tc (some y :: js.map fun j => (σ[j]?).getD none) _ _
    exact hstep i acc H' y H2 _ _ hlt hP hy (fun H4 e => ⟨n - (i + 1), by omega, rfl, hlt, e, _, rfl⟩) fun z H5 e1 e2 => ⟨e1, n - (i + 1), by omega, rfl, hlt, e2, _, rfl⟩
  · have e : i = n := by omega
    subst e
    exact .inl (hst acc H' hP)
end L2
namespace Tn
open PySem L2
def NotW (K : PySem.W.Frag) (H : Hp) (x : V) : Prop := ∃ t, TyOf K H x t ∧ (PySem.W.kitOne K t (.type "int") = some false ∨ (PySem.W.kitOne K t (.type "int") = some true ∧ PySem.W.kitOne K t (.type "bool") = some true))
def Plain (K : PySem.W.Frag) (H : Hp) (x : V) : Prop := (∃ i, x = .int i) ∨ (NotW K H x ∧ ∀ i, x ≠ .int i)
theorem Same.ty {K : PySem.W.Frag} {H H' : Hp} (s : Same H H') {x : V} {t : Value} (h : TyOf K H x t) : TyOf K H' x t := by
  cases h with
  | non => exact .non
  | bl x => exact .bl x
  | int i => exact .int i
  | str x => exact .str x
  | flt x => exact .flt x
  | lst e => exact .lst (s _ _ e)
  | frz e => exact .frz (s _ _ e)
  | tup e => exact .tup (s _ _ e)
  | dK e => exact .dK (s _ _ e)
  | dT e => exact .dT (s _ _ e)
  | ins e c a b d f => exact .ins (s _ _ e) c a b d f
theorem NotW.mono {K : PySem.W.Frag} {H H' : Hp} (s : Same H H') {x : V} (h : NotW K H x) : NotW K H' x := let ⟨t, ty, k⟩ := h; ⟨t, Same.ty s ty, k⟩
theorem Plain.mono {K : PySem.W.Frag} {H H' : Hp} (s : Same H H') {x : V} (h : Plain K H x) : Plain K H' x := h.imp id fun z => ⟨z.1.mono s, z.2⟩
def spWhole (K : PySem.W.Frag) : Sp := fun vs H Q _ => ∃ x, vs = [x] ∧ (((∃ i, x = .int i) ∧ Q (.bl true) H) ∨ (NotW K H x ∧ Q (.bl false) H))
def diffG (b : Int) : List Int → List V → Bool
  | _, [] => true
  | met, .int i :: r => if 0 ≤ i ∧ i < b ∧ i ∉ met then diffG b (met ++ [i]) r else false
  | _, _ :: _ => false
def spDiff (K : PySem.W.Frag) : Sp := fun vs H Q _ => ∃ (l : Addr) (xs : List V) (b : Int), vs = [.ref l, .int b] ∧ SqL K H l xs ∧ xs.length ≤ 1000 ∧ (∀ x ∈ xs, Plain K H x) ∧ ∀ H', Same H H' → Q (.bl (diffG b [] xs)) H'
theorem diffG_iff {b : Int} : ∀ {xs : List V} {met : List Int}, diffG b met xs = true ↔ ∃ us : List Int, xs = us.map V.int ∧ us.Nodup ∧ (∀ u ∈ us, 0 ≤ u ∧ u < b) ∧ ∀ u ∈ us, u ∉ met
  | [], met => by
    constructor
    · intro _; exact ⟨[], rfl, List.nodup_nil, (fun _ h => nomatch h), fun _ h => nomatch h⟩
    · intro _; rfl
  | .int i :: r, met => by
    show (if 0 ≤ i ∧ i < b ∧ i ∉ met then diffG b (met ++ [i]) r else false) = true ↔ _
    constructor
    · intro h
      by_cases hc : 0 ≤ i ∧ i < b ∧ i ∉ met
      · rw [if_pos hc] at h
        obtain ⟨us, rfl, nd, rg, nm⟩ := diffG_iff.mp h
        refine ⟨i :: us, rfl, List.nodup_cons.mpr ⟨fun hi => nm i hi (by simp), nd⟩, fun u hu => ?_, fun u hu => ?_⟩
        · rcases List.mem_cons.mp hu with rfl | hu
          · exact ⟨hc.1, hc.2.1⟩
          · exact rg u hu
        · rcases List.mem_cons.mp hu with rfl | hu
          · exact hc.2.2
          · exact fun z => nm u hu (by simp [z])
      · rw [if_neg hc] at h; cases h
    · rintro ⟨us, e, nd, rg, nm⟩
      cases us with
      | nil => cases e
      | cons u us =>
        injection e with e1 e2
        injection e1 with e1
        subst e1 e2
        obtain ⟨n1, n2⟩ := List.nodup_cons.mp nd
        rw [if_pos ⟨(rg _ List.mem_cons_self).1, (rg _ List.mem_cons_self).2, nm _ List.mem_cons_self⟩]
        refine diffG_iff.mpr ⟨us, rfl, n2, fun v hv => rg v (List.mem_cons_of_mem _ hv), fun v hv z => ?_⟩
        rcases List.mem_append.mp z with z | z
        · exact nm v (List.mem_cons_of_mem _ hv) z
        · have : v = i := by simpa using z
          exact n1 (this ▸ hv)
  | .non :: r, met => ⟨(fun h => nomatch h), fun ⟨us, e, _⟩ => by cases us <;> cases e⟩
  | .bl _ :: r, met => ⟨(fun h => nomatch h), fun ⟨us, e, _⟩ => by cases us <;> cases e⟩
  | .str _ :: r, met => ⟨(fun h => nomatch h), fun ⟨us, e, _⟩ => by cases us <;> cases e⟩
  | .byt _ :: r, met => ⟨(fun h => nomatch h), fun ⟨us, e, _⟩ => by cases us <;> cases e⟩
  | .flt _ :: r, met => ⟨(fun h => nomatch h), fun ⟨us, e, _⟩ => by cases us <;> cases e⟩
  | .ref _ :: r, met => ⟨(fun h => nomatch h), fun ⟨us, e, _⟩ => by cases us <;> cases e⟩
  | .ty _ :: r, met => ⟨(fun h => nomatch h), fun ⟨us, e, _⟩ => by cases us <;> cases e⟩
theorem diffG_not {b : Int} {met : List Int} {x : V} {r : List V} (h : ∀ i, x ≠ .int i) : diffG b met (x :: r) = false := by
  cases x with
  | int i => exact absurd rfl (h i)
  | _ => rfl
theorem diff_ok {b : Int} {us : List Int} (nd : us.Nodup) (rg : ∀ u ∈ us, 0 ≤ u ∧ u < b) : diffG b [] (us.map V.int) = true := diffG_iff.mpr ⟨us, rfl, nd, rg, fun _ _ z => nomatch z⟩
theorem ints_inj : ∀ {us vs : List Int}, us.map V.int = vs.map V.int → us = vs
  | [], [], _ => rfl
  | [], _ :: _, h => nomatch h
  | _ :: _, [], h => nomatch h
  | u :: us, v :: vs, h => by
    injection h with h1 h2
    injection h1 with h1
    rw [h1, ints_inj h2]
theorem met_val (ms : List Int) (z : Int) : (valV (ms.map fun n => ((Sum.inl n : Key), V.bl true)) (Sum.inl z)).isSome = decide (z ∈ ms) := by
  induction ms with
  | nil => rfl
  | cons n r ih =>
    rw [List.map_cons]
    by_cases h : n = z
    · rw [valV_pos (by rw [h])]
      simp [h]
    · rw [valV_neg (by intro e; injection e with e; exact h e), ih]
      have : ¬ z = n := fun e => h e.symm
      simp [this]
def rank (ws : List Int) (w : Int) : Nat := (ws.filter fun v => decide (v < w)).length
def leftF (ord ws : List Int) : List Int := (ord.filter fun w => decide (w ∈ ws)).map fun w => (rank ws w : Int)
theorem strict_rank : ∀ {l : List Int} {i : Nat} {w : Int}, l.Pairwise (· < ·) → l[i]? = some w → rank l w = i
  | [], _, _, _, h => nomatch h
  | a :: l, 0, w, hp, h => by
    have : a = w := by simpa using h
    subst this
    unfold rank
    rw [List.filter_cons_of_neg (by simp)]
    have : l.filter (fun v => decide (v < a)) = [] := by
      rw [List.filter_eq_nil_iff]
      intro v hv
      have := (List.pairwise_cons.mp hp).1 v hv
      simp; omega
    rw [this]; rfl
  | a :: l, i + 1, w, hp, h => by
    have hw : l[i]? = some w := by simpa using h
    have ih := strict_rank (List.pairwise_cons.mp hp).2 hw
    have ha := (List.pairwise_cons.mp hp).1 w (List.mem_of_getElem? hw)
    unfold rank at ih ⊢
    rw [List.filter_cons_of_pos (by simpa using ha), List.length_cons, ih]
theorem rank_perm {l m : List Int} (h : l.Perm m) (w : Int) : rank l w = rank m w := (h.filter _).length_eq
theorem strict_of {l : List Int} (h : l.Pairwise (· ≤ ·)) (nd : l.Nodup) : l.Pairwise (· < ·) := by
  have := List.Pairwise.and h nd
  exact this.imp fun ⟨a, b⟩ => by omega
theorem sorted_rank {ws ws' : List Int} {i : Nat} {w : Int} (hp : ws'.Perm ws) (hs : ws'.Pairwise (· ≤ ·)) (nd : ws.Nodup) (h : ws'[i]? = some w) : rank ws w = i := by
  rw [← rank_perm hp]
  exact strict_rank (strict_of hs (hp.nodup_iff.mpr nd)) h
theorem upto_strict (n : Nat) : (upto n).Pairwise (· < ·) := by
  unfold upto
  rw [List.pairwise_map]
  exact (List.pairwise_lt_range (n := n)).imp fun h => by omega
theorem leftF_len (ord ws : List Int) : (leftF ord ws).length ≤ ord.length := by
  unfold leftF
  rw [List.length_map]
  exact List.length_filter_le _ _
theorem inV_ints (w : Int) (ws : List Int) : inV (.int w) (ws.map V.int) = decide (w ∈ ws) := by
  unfold inV
  rw [List.any_map, Bool.eq_iff_iff]
  simp only [List.any_eq_true, Function.comp, decide_eq_true_eq]
  constructor
  · rintro ⟨v, hv, e⟩
    have : v = w := by simpa [eqV] using e
    exact this ▸ hv
  · intro h
    exact ⟨w, h, by simp [eqV]⟩
def spLeft (K : PySem.W.Frag) (C : Addr) : Sp := fun vs H Q E => ∃ (o l : Addr) (ord : List Int) (xs : List V), vs = [.ref o, .ref l] ∧ SqT K H o (ord.map V.int) ∧ ord.length ≤ 1000 ∧ SqL K H l xs ∧ xs.length ≤ 1000 ∧ (∀ x ∈ xs, Plain K H x) ∧
  (∀ ws : List Int, xs = ws.map V.int → ws ≠ [] → ws.length < 64 → ws.Nodup → (∀ w ∈ ws, 0 ≤ w ∧ w < ord.length) → ∀ (t : Addr) (H' : Hp), H t = none → H' t = some (.tup ((leftF ord ws).map V.int)) → Same H H' → Q (.ref t) H') ∧
  (xs = [] ∨ (diffG ord.length [] xs = true → xs.length < 64)) ∧ (xs = [] ∨ diffG ord.length [] xs = false → ∀ H', Same H H' → E (.ref C) none H')
theorem boot_sorted : bootBuiltins "sorted" = some (.builtin "sorted") := by decide +kernel
end Tn
namespace Tn
open PySem L2
theorem plain_ints (K : PySem.W.Frag) (H : Hp) (ws : List Int) : ∀ x ∈ ws.map V.int, Plain K H x := fun x h => by
  obtain ⟨i, _, rfl⟩ := List.mem_map.mp h
  exact .inl ⟨i, rfl⟩
end Tn
namespace Tn
open PySem L2
def Good (xs : List V) : Prop := 1 ≤ xs.length ∧ xs.length ≤ 60 ∧ diffG xs.length [] xs = true
def spMake (K : PySem.W.Frag) (C : Addr) : Sp := fun vs H Q E => ∃ (l : Addr) (xs : List V), vs = [.ref l] ∧ SqL K H l xs ∧ xs.length ≤ 1000 ∧ (∀ x ∈ xs, Plain K H x) ∧
  (Good xs → ∀ (t : Addr) (H' : Hp), H t = none → H' t = some (.tup xs) → Same H H' → Q (.ref t) H') ∧ (¬ Good xs → ∀ H', Same H H' → E (.ref C) none H')
theorem good_ord {ws : List Int} (h : IsOrd ws) (h1 : 1 ≤ ws.length) (h2 : ws.length ≤ 60) : Good (ws.map V.int) := by
  refine ⟨by rw [List.length_map]; exact h1, by rw [List.length_map]; exact h2, ?_⟩
  rw [List.length_map]
  exact diff_ok h.nodup fun u hu => h.mem.mp hu
theorem not_good_diff {xs : List V} (h : diffG xs.length [] xs = false) : ¬ Good xs := fun ⟨_, _, z⟩ => by rw [h] at z; cases z
theorem boot_ty_str : bootBuiltins "str" = some (.type "str") := by decide +kernel
end Tn
namespace L2
open PySem PySem.Spec PyProof.Rows
section
variable {X : Cx} {e : Expr} {te : TE} {st : Expr} {ts : TE} {pos p2 : Pos}
end
end L2
namespace Tn
open PySem L2
end Tn
namespace L2
open PySem PySem.Spec PyProof.Rows
theorem assign_Tuple_list {prog : Program} {w : World} {A : Around} {E : Value → Shared → Prop} {s : Shared} {env : Env} {elts : List PySem.Expr} {x1 : Nat} {pos : Pos} {t : Addr} {items : Array Value} {Q : Unit → Shared → Prop}
    (hh : A.handled = none) (ht : s.heap.IsList t items) (hl : (assignEach elts env).length = items.size) (hf : List.findIdx? (fun x => x.fst) (assignEach elts env) = none)
    (hq : ∀ (h' : Heap), Heap.ExtBut s.heap.objs.size s.heap h' → wpAny (model prog w) A (assignInOrder (List.map (fun x => x.snd) (assignEach elts env)) items.toList) Q E { s with heap := h' }) :
    wpAny (model prog w) A (assign (Expr.Tuple elts x1 pos) env (Value.ref t)) Q E s := by
  rw [assign_Tuple]
  refine wpAny_bind (wpAny_standAt ?_)
  unfold unpack
  rw [hf, hl]
  refine wpAny_bind ?_
  refine wpAny_holding ?_
  exact PySem.W.kun_itemsOf hh ht hq
section
variable {X : Cx} {pos : Pos}
def gTupL (K : PySem.W.Frag) (n : Nat) (t : TGs) : TG := fun v σ H Q => ∃ a xs, v = .ref a ∧ SqL K H a xs ∧ xs.length = n ∧ t xs σ H Q
theorem pg_tupL {es : List Expr} {k : Nat} {t : TGs} {n : Nat} (hc : X.calm = true) (h : PGs X es t)
    (hn : (assignEach es X.env).length = n := by rfl) (hst : (assignEach es X.env).findIdx? (·.1) = none := by rfl) : PG X (.Tuple es k pos) (gTupL X.K n t) := by
  intro pins s σ H v u Q I r hw
  obtain ⟨a, xs, e1, hq, hl, hw⟩ := hw
  subst e1
  cases r
  obtain ⟨its, rv, ht, hz⟩ := I.list hq
  refine assign_Tuple_list (I.ok.hd hc) ht.isList (by simp [hn, ← hl, rv.length]) hst fun h' hx => ?_
  have I1 : Inv X pins σ H { s with heap := h' } := I.kept (t' := s.toks) fun b o e => hx b o (Nat.ne_of_lt (Heap.lt_size e)) e
  exact h pins _ σ H xs _ Q I1 (by simpa using rv) hw
end
end L2
namespace Tn
open PySem L2
inductive Nest where
  | word
  | knot (k : Bool) (ps : List Nest)
  | bad
def kS (k : Bool) : Str := if k then "+" else "-"
def aS : Option Bool → Str
  | none => ""
  | some k => kS k
def Typed (K : PySem.W.Frag) (H : Hp) (y : V) : Prop := ∃ t b, TyOf K H y t ∧ PySem.W.kitOne K t (.type "tuple") = some b
inductive NoKnot (K : PySem.W.Frag) (H : Hp) : V → Prop where
  | ty {v : V} {t : Value} : TyOf K H v t → PySem.W.kitOne K t (.type "tuple") = some false → NoKnot K H v
  | len {a : Addr} {xs : List V} : H a = some (.tup xs) → xs.length ≠ 2 → NoKnot K H (.ref a)
  | notStr {a : Addr} {x y : V} {t : Value} : H a = some (.tup [x, y]) → TyOf K H x t → PySem.W.kitOne K t (.type "str") = some false → Typed K H y → NoKnot K H (.ref a)
  | kind {a : Addr} {z : Str} {y : V} : H a = some (.tup [.str z, y]) → z ≠ "+" → z ≠ "-" → Typed K H y → NoKnot K H (.ref a)
  | notTup {a : Addr} {k : Bool} {y : V} {t : Value} : H a = some (.tup [.str (kS k), y]) → TyOf K H y t → PySem.W.kitOne K t (.type "tuple") = some false → NoKnot K H (.ref a)
  | few {a b : Addr} {k : Bool} {xs : List V} : H a = some (.tup [.str (kS k), .ref b]) → H b = some (.tup xs) → xs.length < 2 → NoKnot K H (.ref a)
mutual
def NestAt (K : PySem.W.Frag) (H : Hp) : Nest → V → Prop
  | .word, v => v = .non
  | .knot k ps, v => ∃ a b vs, v = .ref a ∧ H a = some (.tup [.str (kS k), .ref b]) ∧ H b = some (.tup vs) ∧ 2 ≤ vs.length ∧ vs.length ≤ 1000 ∧ NestsAt K H ps vs
  | .bad, v => v ≠ .non ∧ NoKnot K H v
def NestsAt (K : PySem.W.Frag) (H : Hp) : List Nest → List V → Prop
  | [], vs => vs = []
  | n :: r, vs => ∃ v vr, vs = v :: vr ∧ NestAt K H n v ∧ NestsAt K H r vr
end
mutual
def words : Nest → Nat
  | .word => 1
  | .knot _ ps => wordsL ps
  | .bad => 1
def wordsL : List Nest → Nat
  | [] => 0
  | n :: r => words n + wordsL r
end
mutual
def valid : Option Bool → Nest → Bool
  | _, .word => true
  | o, .knot k ps => (!decide (o = some k)) && validL k ps
  | _, .bad => false
def validL : Bool → List Nest → Bool
  | _, [] => true
  | k, n :: r => valid (some k) n && validL k r
end
mutual
def depthN : Nest → Nat
  | .word => 0
  | .knot _ ps => 1 + depthL ps
  | .bad => 0
def depthL : List Nest → Nat
  | [] => 0
  | n :: r => Nat.max (depthN n) (depthL r)
end
mutual
def sizeN : Nest → Nat
  | .word => 1
  | .knot _ ps => 1 + sizeL ps
  | .bad => 1
def sizeL : List Nest → Nat
  | [] => 0
  | n :: r => sizeN n + sizeL r
end
theorem NoKnot.mono {K : PySem.W.Frag} {H H' : Hp} (s : Same H H') {v : V} (h : NoKnot K H v) : NoKnot K H' v := by
  cases h with
  | ty t k => exact .ty (Same.ty s t) k
  | len e k => exact .len (s _ _ e) k
  | notStr e t k y => exact .notStr (s _ _ e) (Same.ty s t) k (let ⟨t', b, t2, kk⟩ := y; ⟨t', b, Same.ty s t2, kk⟩)
  | kind e a b y => exact .kind (s _ _ e) a b (let ⟨t', b', t2, kk⟩ := y; ⟨t', b', Same.ty s t2, kk⟩)
  | notTup e t k => exact .notTup (s _ _ e) (Same.ty s t) k
  | few e1 e2 k => exact .few (s _ _ e1) (s _ _ e2) k
mutual
theorem NestAt.mono {K : PySem.W.Frag} {H H' : Hp} (s : Same H H') : ∀ {n : Nest} {v : V}, NestAt K H n v → NestAt K H' n v
  | .word, _, h => h
  | .knot _ _, _, ⟨a, b, vs, e, h1, h2, h3, h4, h5⟩ => ⟨a, b, vs, e, s _ _ h1, s _ _ h2, h3, h4, NestsAt.mono s h5⟩
  | .bad, _, ⟨h1, h2⟩ => ⟨h1, h2.mono s⟩
theorem NestsAt.mono {K : PySem.W.Frag} {H H' : Hp} (s : Same H H') : ∀ {ns : List Nest} {vs : List V}, NestsAt K H ns vs → NestsAt K H' ns vs
  | [], _, h => h
  | _ :: _, _, ⟨v, vr, e, h1, h2⟩ => ⟨v, vr, e, NestAt.mono s h1, NestsAt.mono s h2⟩
end
theorem NestsAt.len {K : PySem.W.Frag} {H : Hp} : ∀ {ns : List Nest} {vs : List V}, NestsAt K H ns vs → ns.length = vs.length
  | [], _, h => by have h : _ = [] := h; subst h; rfl
  | _ :: _, _, ⟨v, vr, e, _, h2⟩ => by subst e; simp [NestsAt.len h2]
theorem NestsAt.app {K : PySem.W.Frag} {H : Hp} : ∀ {ns ms : List Nest} {vs us : List V}, NestsAt K H ns vs → NestsAt K H ms us → NestsAt K H (ns ++ ms) (vs ++ us)
  | [], _, _, _, h, h' => by have h : _ = [] := h; subst h; exact h'
  | _ :: _, _, _, _, ⟨v, vr, e, h1, h2⟩, h' => by subst e; exact ⟨v, _, rfl, h1, NestsAt.app h2 h'⟩
theorem NestsAt.one {K : PySem.W.Frag} {H : Hp} {n : Nest} {v : V} (h : NestAt K H n v) : NestsAt K H [n] [v] := ⟨v, [], rfl, h, rfl⟩
theorem NestsAt.get {K : PySem.W.Frag} {H : Hp} : ∀ {ns : List Nest} {vs : List V} {i : Nat} {v : V}, NestsAt K H ns vs → vs[i]? = some v → ∃ n, ns[i]? = some n ∧ NestAt K H n v
  | [], _, _, _, h, e => by have h : _ = [] := h; subst h; cases e
  | n :: _, _, 0, _, ⟨v, vr, e0, h1, _⟩, e => by subst e0; cases e; exact ⟨n, rfl, h1⟩
  | _ :: _, _, i + 1, _, ⟨v, vr, e0, _, h2⟩, e => by subst e0; exact NestsAt.get (i := i) h2 (by simpa using e)
theorem wordsL_app : ∀ (a b : List Nest), wordsL (a ++ b) = wordsL a + wordsL b
  | [], b => by simp [wordsL]
  | n :: a, b => by simp only [List.cons_append, wordsL, wordsL_app a b]; omega
theorem validL_app (k : Bool) : ∀ (a b : List Nest), validL k (a ++ b) = (validL k a && validL k b)
  | [], b => by simp [validL]
  | n :: a, b => by simp only [List.cons_append, validL, validL_app k a b, Bool.and_assoc]
mutual
theorem words_pos {K : PySem.W.Frag} {H : Hp} : ∀ {n : Nest} {v : V}, NestAt K H n v → 1 ≤ words n
  | .word, _, _ => by simp [words]
  | .knot _ ps, _, ⟨_, _, vs, _, _, _, h3, _, h5⟩ => by
    have h6 := wordsL_pos h5
    have h7 := NestsAt.len h5
    simp only [words]
    omega
  | .bad, _, _ => by simp [words]
theorem wordsL_pos {K : PySem.W.Frag} {H : Hp} : ∀ {ns : List Nest} {vs : List V}, NestsAt K H ns vs → ns.length ≤ wordsL ns
  | [], _, _ => by simp [wordsL]
  | _ :: _, _, ⟨_, _, _, h1, h2⟩ => by
    have h3 := words_pos h1
    have h4 := wordsL_pos h2
    simp only [wordsL, List.length_cons]
    omega
end
mutual
theorem size_pos : ∀ (n : Nest), 1 ≤ sizeN n
  | .word => by simp [sizeN]
  | .knot _ _ => by simp [sizeN]
  | .bad => by simp [sizeN]
end
theorem NoKnot.updL {K : PySem.W.Frag} {H : Hp} {p : Addr} {us vs : List V} (e : H p = some (.lst us)) {v : V} (h : NoKnot K H v) : NoKnot K (upd H p (.lst vs)) v := by
  have tup : ∀ {a : Addr} {xs : List V}, H a = some (.tup xs) → (upd H p (.lst vs)) a = some (.tup xs) := fun {a xs} h => by
    rw [upd_ne (ne_of h e (by intro z; cases z))]
    exact h
  have go : ∀ {x : V} {t : Value}, TyOf K H x t → TyOf K (upd H p (.lst vs)) x t := fun {x t} h => by
    have keep : ∀ {a : Addr} {o : HO}, (∀ ys, o ≠ .lst ys) → H a = some o → (upd H p (.lst vs)) a = some o := fun {a o} n h => by
      rw [upd_ne (ne_of h e (n _))]
      exact h
    cases h with
    | non => exact .non
    | bl x => exact .bl x
    | int i => exact .int i
    | str x => exact .str x
    | flt x => exact .flt x
    | @lst a ys h =>
      by_cases hap : a = p
      · subst hap
        exact .lst upd_same
      · exact .lst (by rw [upd_ne hap]; exact h)
    | frz h => exact .frz (keep (fun _ z => nomatch z) h)
    | tup h => exact .tup (keep (fun _ z => nomatch z) h)
    | dK h => exact .dK (keep (fun _ z => nomatch z) h)
    | dT h => exact .dT (keep (fun _ z => nomatch z) h)
    | ins h c a b d f => exact .ins (keep (fun _ z => nomatch z) h) c a b d f
  cases h with
  | ty t k => exact .ty (go t) k
  | len h k => exact .len (tup h) k
  | notStr h t k y => exact .notStr (tup h) (go t) k (let ⟨t', b, t2, kk⟩ := y; ⟨t', b, go t2, kk⟩)
  | kind h a b y => exact .kind (tup h) a b (let ⟨t', b', t2, kk⟩ := y; ⟨t', b', go t2, kk⟩)
  | notTup h t k => exact .notTup (tup h) (go t) k
  | few h1 h2 k => exact .few (tup h1) (tup h2) k
mutual
theorem NestAt.updL {K : PySem.W.Frag} {H : Hp} {p : Addr} {us vs : List V} (e : H p = some (.lst us)) : ∀ {n : Nest} {v : V}, NestAt K H n v → NestAt K (upd H p (.lst vs)) n v
  | .word, _, h => h
  | .knot _ _, _, ⟨a, b, ws, e0, h1, h2, h3, h4, h5⟩ => ⟨a, b, ws, e0, by rw [upd_ne (ne_of h1 e (by intro z; cases z))]; exact h1, by rw [upd_ne (ne_of h2 e (by intro z; cases z))]; exact h2, h3, h4, NestsAt.updL e h5⟩
  | .bad, _, ⟨h1, h2⟩ => ⟨h1, h2.updL e⟩
theorem NestsAt.updL {K : PySem.W.Frag} {H : Hp} {p : Addr} {us vs : List V} (e : H p = some (.lst us)) : ∀ {ns : List Nest} {ws : List V}, NestsAt K H ns ws → NestsAt K (upd H p (.lst vs)) ns ws
  | [], _, h => h
  | _ :: _, _, ⟨v, vr, e0, h1, h2⟩ => ⟨v, vr, e0, NestAt.updL e h1, NestsAt.updL e h2⟩
end
def okN (n : Nest) : Bool := valid none n && decide (words n ≤ 60)
def spKnot (K : PySem.W.Frag) : Sp := fun vs H Q _ => ∃ v, vs = [v] ∧ ((NoKnot K H v ∧ ∀ H', Same H H' → Q (.bl false) H') ∨
  ∃ a b k us, v = .ref a ∧ H a = some (.tup [.str (kS k), .ref b]) ∧ H b = some (.tup us) ∧ 2 ≤ us.length ∧ us.length ≤ 1000 ∧ ∀ H', Same H H' → Q (.bl true) H')
def spIsNest (K : PySem.W.Frag) : Sp := fun vs H Q _ => ∃ v n, vs = [v] ∧ NestAt K H n v ∧ ∀ H', Same H H' → Q (.bl (okN n)) H'
theorem kS_in (k : Bool) : inV (.str (kS k)) [.str "+", .str "-"] = true := by cases k <;> decide +kernel
theorem kS_notIn {z : Str} (h1 : z ≠ "+") (h2 : z ≠ "-") : inV (.str z) [.str "+", .str "-"] = false := by
  unfold inV
  simp only [List.any_cons, List.any_nil, Bool.or_false, eqV, Bool.or_eq_false_iff, beq_eq_false_iff_ne, ne_eq]
  first
  | exact ⟨h1, h2⟩
  | exact ⟨fun e => h1 e.symm, fun e => h2 e.symm⟩
theorem kS_ne (k : Bool) (o : Option Bool) : decide (V.str (kS k) = V.str (aS o)) = decide (o = some k) := by
  cases o with
  | none => cases k <;> decide +kernel
  | some j => cases k <;> cases j <;> decide +kernel
def WaitAt (K : PySem.W.Frag) (H : Hp) : List (Nest × Option Bool) → List Addr → Prop
  | [], ts => ts = []
  | p :: r, ts => ∃ t tr v, ts = t :: tr ∧ H t = some (.tup [v, .str (aS p.2)]) ∧ NestAt K H p.1 v ∧ WaitAt K H r tr
theorem WaitAt.mono {K : PySem.W.Frag} {H H' : Hp} (s : Same H H') : ∀ {st : List (Nest × Option Bool)} {ts : List Addr}, WaitAt K H st ts → WaitAt K H' st ts
  | [], _, h => h
  | _ :: _, _, ⟨t, tr, v, e, h1, h2, h3⟩ => ⟨t, tr, v, e, s _ _ h1, h2.mono s, WaitAt.mono s h3⟩
theorem WaitAt.updL {K : PySem.W.Frag} {H : Hp} {p : Addr} {us vs : List V} (e : H p = some (.lst us)) : ∀ {st : List (Nest × Option Bool)} {ts : List Addr}, WaitAt K H st ts → WaitAt K (upd H p (.lst vs)) st ts
  | [], _, h => h
  | _ :: _, _, ⟨t, tr, v, e0, h1, h2, h3⟩ => ⟨t, tr, v, e0, by rw [upd_ne (ne_of h1 e (by intro z; cases z))]; exact h1, h2.updL e, WaitAt.updL e h3⟩
theorem WaitAt.len {K : PySem.W.Frag} {H : Hp} : ∀ {st : List (Nest × Option Bool)} {ts : List Addr}, WaitAt K H st ts → st.length = ts.length
  | [], _, h => by have h : _ = [] := h; subst h; rfl
  | _ :: _, _, ⟨_, _, _, e, _, _, h3⟩ => by subst e; simp [WaitAt.len h3]
theorem WaitAt.app {K : PySem.W.Frag} {H : Hp} : ∀ {a b : List (Nest × Option Bool)} {ts us : List Addr}, WaitAt K H a ts → WaitAt K H b us → WaitAt K H (a ++ b) (ts ++ us)
  | [], _, _, _, h, h' => by have h : _ = [] := h; subst h; exact h'
  | _ :: _, _, _, _, ⟨t, tr, v, e, h1, h2, h3⟩, h' => by subst e; exact ⟨t, _, v, rfl, h1, h2, WaitAt.app h3 h'⟩
theorem WaitAt.rev {K : PySem.W.Frag} {H : Hp} : ∀ {a : List (Nest × Option Bool)} {ts : List Addr}, WaitAt K H a ts → WaitAt K H a.reverse ts.reverse
  | [], _, h => by have h : _ = [] := h; subst h; rfl
  | _ :: _, _, ⟨t, tr, v, e, h1, h2, h3⟩ => by
    subst e
    rw [List.reverse_cons, List.reverse_cons]
    exact WaitAt.app (WaitAt.rev h3) ⟨t, [], v, rfl, h1, h2, rfl⟩
def waitW (st : List (Nest × Option Bool)) : Nat := (st.map fun p => words p.1).sum
def waitS (st : List (Nest × Option Bool)) : Nat := (st.map fun p => sizeN p.1).sum
def waitOk (st : List (Nest × Option Bool)) : Bool := st.all fun p => valid p.2 p.1
theorem WaitAt.words {K : PySem.W.Frag} {H : Hp} : ∀ {st : List (Nest × Option Bool)} {ts : List Addr}, WaitAt K H st ts → st.length ≤ waitW st
  | [], _, _ => by simp [waitW]
  | p :: r, _, ⟨_, _, _, _, _, h2, h3⟩ => by
    have a1 := words_pos h2
    have a2 := WaitAt.words h3
    unfold waitW at *
    simp only [List.map_cons, List.sum_cons, List.length_cons]
    omega
def within (k : Bool) (ps : List Nest) : List (Nest × Option Bool) := ps.map fun n => (n, some k)
theorem within_w (k : Bool) : ∀ ps, waitW (within k ps) = wordsL ps
  | [] => rfl
  | n :: r => by
    have := within_w k r
    unfold waitW within at *
    simp only [List.map_cons, List.sum_cons, wordsL]
    omega
theorem within_s (k : Bool) : ∀ ps, waitS (within k ps) = sizeL ps
  | [] => rfl
  | n :: r => by
    have := within_s k r
    unfold waitS within at *
    simp only [List.map_cons, List.sum_cons, sizeL]
    omega
theorem within_ok (k : Bool) : ∀ ps, waitOk (within k ps) = validL k ps
  | [] => rfl
  | n :: r => by
    have := within_ok k r
    unfold waitOk within at *
    simp only [List.map_cons, List.all_cons, validL, this]
theorem waitW_app (a b : List (Nest × Option Bool)) : waitW (a ++ b) = waitW a + waitW b := by simp [waitW]
theorem waitS_app (a b : List (Nest × Option Bool)) : waitS (a ++ b) = waitS a + waitS b := by simp [waitS]
theorem waitOk_app (a b : List (Nest × Option Bool)) : waitOk (a ++ b) = (waitOk a && waitOk b) := by simp [waitOk]
theorem waitW_rev (a : List (Nest × Option Bool)) : waitW a.reverse = waitW a := by simp [waitW]
theorem waitS_rev (a : List (Nest × Option Bool)) : waitS a.reverse = waitS a := by simp [waitS]
theorem waitOk_rev (a : List (Nest × Option Bool)) : waitOk a.reverse = waitOk a := by simp [waitOk]
end Tn
namespace Tn
open PySem L2
structure Ent where
  e : Addr
  p : Addr
  k : Bool
  ns : List Nest
  vs : List V
def EntAt (K : PySem.W.Frag) (H : Hp) (x : Ent) : Prop := H x.e = some (.lst [.str (kS x.k), .ref x.p]) ∧ H x.p = some (.lst x.vs) ∧ NestsAt K H x.ns x.vs
def addrs : List Ent → List Addr
  | [] => []
  | x :: r => x.e :: x.p :: addrs r
def refsE (st : List Ent) : List V := st.reverse.map fun x => V.ref x.e
structure PileAt (K : PySem.W.Frag) (B H : Hp) (pl : Addr) (st : List Ent) : Prop where
  here : H pl = some (.lst (refsE st))
  ents : ∀ x ∈ st, EntAt K H x
  nd : (pl :: addrs st).Nodup
  fresh : ∀ a ∈ pl :: addrs st, B a = none
  same : Same B H
end Tn
namespace L2
open PySem PySem.Spec PyProof.Rows
section
variable {X : Cx}
end
end L2
namespace Tn
open PySem L2
mutual
theorem depth_words {K : PySem.W.Frag} {H : Hp} : ∀ {n : Nest} {v : V}, NestAt K H n v → depthN n + 1 ≤ words n
  | .word, _, _ => by simp [words, depthN]
  | .knot _ ps, _, ⟨_, _, vs, _, _, _, h3, _, h5⟩ => by
    have h6 := depthL_words h5
    have h7 := NestsAt.len h5
    simp only [words, depthN]
    omega
  | .bad, _, _ => by simp [words, depthN]
theorem depthL_words {K : PySem.W.Frag} {H : Hp} : ∀ {ns : List Nest} {vs : List V}, NestsAt K H ns vs → depthL ns + ns.length ≤ wordsL ns
  | [], _, _ => by simp [wordsL, depthL]
  | n :: r, _, ⟨_, _, _, h1, h2⟩ => by
    have h3 := depth_words h1
    have h4 := depthL_words h2
    have h5 := wordsL_pos h2
    have h6 := words_pos h1
    simp only [wordsL, depthL, List.length_cons]
    have : Nat.max (depthN n) (depthL r) ≤ depthN n ∨ Nat.max (depthN n) (depthL r) ≤ depthL r := by
      rcases Nat.le_total (depthN n) (depthL r) with h | h
      · right; exact Nat.max_le.mpr ⟨h, Nat.le_refl _⟩
      · left; exact Nat.max_le.mpr ⟨Nat.le_refl _, h⟩
    omega
end
def spMust (K : PySem.W.Frag) (C : Addr) : Sp := fun vs H Q E => ∃ v n, vs = [v] ∧ NestAt K H n v ∧ (okN n = true → ∀ H', Same H H' → Q .non H') ∧ (okN n = false → ∀ H', Same H H' → E (.ref C) none H')
def spCount (K : PySem.W.Frag) (g : Nest → Nat) (d : Nat) : Sp := fun vs H Q _ => ∃ v n o, vs = [v] ∧ NestAt K H n v ∧ valid o n = true ∧ depthN n < d ∧ ∀ H', Same H H' → Q (.int (g n : Nat)) H'
theorem okN_valid {n : Nest} (h : okN n = true) : valid none n = true ∧ words n ≤ 60 := by
  unfold okN at h
  obtain ⟨a, b⟩ := Bool.and_eq_true_iff.mp h
  exact ⟨a, of_decide_eq_true b⟩
theorem validL_get {k : Bool} : ∀ {ps : List Nest} {i : Nat} {n : Nest}, validL k ps = true → ps[i]? = some n → valid (some k) n = true
  | [], _, _, _, h => nomatch h
  | m :: r, 0, _, hv, h => by cases h; simp only [validL, Bool.and_eq_true] at hv; exact hv.1
  | m :: r, i + 1, _, hv, h => by simp only [validL, Bool.and_eq_true] at hv; exact validL_get (i := i) hv.2 (by simpa using h)
theorem depthL_get : ∀ {ps : List Nest} {i : Nat} {n : Nest}, ps[i]? = some n → depthN n ≤ depthL ps
  | [], _, _, h => nomatch h
  | m :: r, 0, _, h => by cases h; simp only [depthL]; exact Nat.le_max_left _ _
  | m :: r, i + 1, _, h => by simp only [depthL]; exact Nat.le_trans (depthL_get (i := i) (by simpa using h)) (Nat.le_max_right _ _)
theorem wordsL_sum : ∀ ps : List Nest, ((ps.map fun n => ((words n : Nat) : Int)).sum) = ((wordsL ps : Nat) : Int)
  | [] => rfl
  | n :: r => by simp only [List.map_cons, List.sum_cons, wordsL, wordsL_sum r]; omega
end Tn
namespace Tn
open L2 PySem PySem.W PySem.Calls PyProof.Rows PySem.Spec
end Tn
namespace L2
open PySem PySem.Spec PyProof PyProof.Rows
theorem cat_tup0 {prog : Program} {w : World} {A : Around} {E : Value → Shared → Prop} {s : Shared} {t b : Addr} {ws : List Value} {Q : Value → Shared → Prop} (ht : IsTup s.heap t ([] : List Value).toArray) (hb : IsTup s.heap b ws.toArray) (h : Q (.ref b) s) :
    wpAny (model prog w) A (binaryOp .Add (.ref t) (.ref b)) Q E s := by
  obtain ⟨⟨cls, dd, data, sl⟩, ho, hc, n, hd⟩ := ht
  obtain ⟨⟨cls2, dd2, data2, sl2⟩, ho2, hc2, n2, hd2⟩ := hb
  cases hc
  cases hd
  cases hc2
  cases hd2
  exact concat_meets ⟨_, ho, rfl⟩ ⟨_, ho2, rfl⟩ noFill_tuple_add seq_tuple_add F.slot_tuple_add F.entry_tuple_add (F.args_tuple_add_2 _ _) (tuple_addW0 t b _ _ n n2 dd dd2 sl sl2 (by simp)) ⟨ho, ho2, h⟩
section
variable {X : Cx}
def rCatA (K : PySem.W.Frag) : R2 := fun x y H Q => ∃ a b xs ys, x = .ref a ∧ y = .ref b ∧ SqT K H a xs ∧ SqT K H b ys ∧ xs.length + ys.length ≤ sizeLine ∧
  ((xs = [] ∧ Q (.ref b) H) ∨ (xs ≠ [] ∧ ys = [] ∧ Q (.ref a) H) ∨ (xs ≠ [] ∧ ys ≠ [] ∧ ∀ p, H p = none → Q (.ref p) (upd H p (.tup (xs ++ ys)))))
theorem op_catA : OpR X (binaryOp .Add) (rCatA X.K) := by
  intro pins s σ H x y v u Q I rx ry h
  obtain ⟨a, b, xs, ys, rfl, rfl, ha, hb, hz, h⟩ := h
  cases rx
  cases ry
  obtain ⟨its, r1, p1, _⟩ := I.tuple ha
  obtain ⟨its2, r2, p2, _⟩ := I.tuple hb
  rcases h with ⟨hx, q⟩ | ⟨hx, hy, q⟩ | ⟨hx, hy, q⟩
  · subst hx
    cases r1
    exact cat_tup0 p1 p2 ⟨.ref b, H, I, rfl, q⟩
  · exact HT.cat_tup p1 p2 (fun z => hx (r1.nil_iff.mp z)) (fun z => ⟨.ref a, H, I, rfl, q⟩) (fun z => absurd (r2.nil_iff.mpr hy) z) (by rw [← r1.length, ← r2.length]; exact hz)
  · refine HT.cat_tup p1 p2 (fun z => hx (r1.nil_iff.mp z)) (fun z => absurd (r2.nil_iff.mp z) hy) (fun z => ?_) (by rw [← r1.length, ← r2.length]; exact hz)
    refine ⟨.ref s.heap.objs.size, _, I.laid (t' := s.toks) (o := .tup (xs ++ ys)) (fun b ob q => Heap.get?_push_of_some _ q) (Nat.le_refl _) ?_, rfl, q _ (I.hok.fresh (Nat.le_refl _))⟩
    exact ⟨by rw [List.length_append]; exact hz, _, r1.append r2, IsTupN.new _ _⟩
end
end L2
namespace Tn
open PySem L2
theorem kit_not (K : PySem.W.Frag) {n m : String} (h0 : PySem.W.kitMeta m = true) (h1 : (Value.type n == Value.type m) = false) (h2 : (fastBuiltinMro n).map (·.contains (.type m)) = some false) : PySem.W.kitOne K (.type n) (.type m) = some false := by
  unfold PySem.W.kitOne
  rw [if_neg (by rw [h1]; decide)]
  show (if PySem.W.kitMeta m = true then PySem.W.subIn K (.type n) (.type m) else none) = some false
  rw [if_pos h0]
  exact h2
end Tn
namespace Tn
open L2 PySem PySem.W PySem.Calls PyProof.Rows PySem.Spec
def Has (P : Program) (w : World) (K : PySem.W.Frag) (mg : Str → Option Value) (base : Heap) (CX : CXT) (k : Nat) (x : Str) (ps : List Str) (sp : Sp) : Prop :=
  ∃ (f : Addr) (fd : FuncData), FnOk P w K mg base CX k f fd ps sp ∧ PySem.W.keepIn K (.ref f) = true ∧ mg x = some (.ref f) ∧ Binds K fd ps []
structure Def (K : PySem.W.Frag) (mg : Str → Option Value) (x : Str) (st : Stmt) (ps : List Str) : Prop where
  ex : ∃ (f : Addr) (fd : FuncData), L2.Fun K x x st f fd ∧ PySem.W.keepIn K (.ref f) = true ∧ mg x = some (.ref f) ∧ Binds K fd ps []
section
variable {P : Program} {w : World} {K : PySem.W.Frag} {mg : Str → Option Value} {base : Heap} {x : Str} {st : Stmt} {N ps : List Str} {k : Nat} {sp sp' : Sp} {CX : CXT}
theorem Def.ok (D : Def K mg x st ps) (S : FnScope N ps (defScope st)) (len : ∀ vs H Q E, sp vs H Q E → vs.length = ps.length)
    (hbody : ∀ (f : Addr) (cdv : Value) (A : Around) (outer : List Env) (s : Shared) (H : Hp) (vs : List V) (Q : VK) (E : XK), Room k (A.deeper (envOfC x (defScope st) s.heap.objs.size f cdv)) → sp vs H Q E →
      ∃ t, PSs (cxOf CX0 P w K mg base N x (defScope st) f cdv A outer s H E).nox (defBody st) t ∧ t { nx := fun _ H' => Q .non H', rt := Q } (start N vs) H) : Has P w K mg base CX0 (k + 1) x ps sp := by
  obtain ⟨f, fd, F, h1, h2, h3⟩ := D.ex
  exact ⟨f, fd, F.ok S len (fun cdv A outer s H vs Q E => hbody f cdv A outer s H vs Q E), h1, h2, h3⟩
theorem Def.okV (D : Def K mg x st ps) (S : FnScope N ps (defScope st)) (len : ∀ vs H Q E, sp vs H Q E → vs.length = ps.length)
    (hbody : ∀ (f : Addr) (cdv : Value) (A : Around) (outer : List Env) (s : Shared) (H : Hp) (vs : List V) (Q : VK) (E : XK), Room k (A.deeper (envOfC x (defScope st) s.heap.objs.size f cdv)) → sp vs H Q E →
      ∃ t, PSs (cxOf (CXV P w) P w K mg base N x (defScope st) f cdv A outer s H E) (defBody st) t ∧ t { nx := fun _ H' => Q .non H', rt := Q } (start N vs) H) : Has P w K mg base (CXV P w) (k + 1) x ps sp := by
  obtain ⟨f, fd, F, h1, h2, h3⟩ := D.ex
  exact ⟨f, fd, funV F S len (fun cdv A outer s H vs Q E => hbody f cdv A outer s H vs Q E), h1, h2, h3⟩
theorem Def.rec0 (D : Def K mg x st ps) (h : ∀ vs H Q E, ¬ sp vs H Q E) : Has P w K mg base CX k x ps sp := by
  obtain ⟨f, fd, F, h1, h2, h3⟩ := D.ex
  exact ⟨f, fd, ⟨fun vs H Q E z => absurd z (h vs H Q E), fun A outer s H args us vs Q E _ _ _ _ z => absurd z (h vs H Q E)⟩, h1, h2, h3⟩
end
def tHas (sp : Sp) (E : XK) (t : TA) : TE := fun σ H Q => t σ H fun vs H1 => sp vs H1 Q E
section
variable {X : Cx}
theorem pe_has {CX : CXT} {k : Nat} {x : Str} {ps : List Str} {sp : Sp} {E : XK} {e : Expr} {es : List Expr} {t : TA} {p pos : Pos} (F : Has X.prog X.w X.K X.mg X.base CX k x ps sp) (hr : Room k X.A) (hg : Gl X x) (hx : Passes CX X E)
    (ha : PA X (e :: es) t) (hdb : (x == ("__debug__" : Str)) = false := by decide) (he : starEach (e :: es) X.env = (false, eval e X.env) :: starEach es X.env := by rfl) (hpl : (backTo pos (starEach es X.env)).any (·.1) = false := by rfl) :
    PE X (.Call (.Name x p) (e :: es) [] pos) (tHas sp E t) := by
  obtain ⟨f, fd, G, h1, h2, h3⟩ := F
  have e0 : tHas sp E t = tCall sp [] E t := by
    funext σ H Q
    show t σ H (fun vs H1 => sp vs H1 Q E) = t σ H (fun vs H1 => sp (vs ++ []) H1 Q E)
    congr 1
    funext vs H1
    rw [List.append_nil]
  rw [e0]
  exact pe_call G hr hg h2 h1 h3 .nil hx ha hdb he hpl
theorem op_mulW : OpR X (binaryOp .Mult) (rI IntMulOk fun i j => .int (i * j)) := opI fun _ _ _ _ _ _ _ hc q => PyProof.Rows.mul_int q hc
end
structure ExcL (K : PySem.W.Frag) (T C : Addr) : Prop where
  xC : PySem.W.excIn K C bmVE "ValueError.__new__" = true
  tx : ExcTxt K C
  ct : CatTxt K T
  mr : PySem.W.mroIn K C (.ref T) = some true
  ve : PySem.W.kitOne K (.ref C) (.type "ValueError") = some true
theorem mulOk_of {i j : Int} (h1 : -(2 ^ 64) < i) (h2 : i < 2 ^ 64) : IntMulOk i j := CMul.ok (.inl ⟨h1, h2⟩)
end Tn
namespace Tn
open L2 PySem
theorem go_c {X : Cx} {s : Stmt} {ss : List Stmt} {C : TS → Prop} {t : TS} (hs : PS X s t) (k : let t' := t; ∃ u, PSs X ss u ∧ C (tSeq t' u)) : ∃ u, PSs X (s :: ss) u ∧ C u :=
  let ⟨_, hu, hc⟩ := k; ⟨_, pss_cons hs hu, hc⟩
theorem go_1 {X : Cx} {s : Stmt} {C : TS → Prop} {t : TS} (hs : PS X s t) (k : let t' := t; C t') : ∃ u, PSs X [s] u ∧ C u := ⟨_, pss_one hs, k⟩
end Tn
namespace Tn
theorem len_1 {α : Type} {us : List α} (h : us.length = 1) : ∃ a, us = [a] := match us, h with | [a], _ => ⟨a, rfl⟩
theorem len_2 {α : Type} {us : List α} (h : us.length = 2) : ∃ a b, us = [a, b] := match us, h with | [a, b], _ => ⟨a, b, rfl⟩
theorem len_3 {α : Type} {us : List α} (h : us.length = 3) : ∃ a b c, us = [a, b, c] := match us, h with | [a, b, c], _ => ⟨a, b, c, rfl⟩
end Tn
namespace L2
open PySem PySem.Spec PyProof.Rows
section
variable {prog : Program} {w : World} {A : Around} {E : Value → Shared → Prop} {s : Shared} {l : Addr} {xs : Array (Int × Tok)}
end
section
variable {X : Cx}
theorem extT (l : Addr) (items : Array Value) (n : Nat) (b : Addr) (items2 : Array Value) (n2 : Nat) (sl : Array (Option Value)) (h0 : ¬(!items.isEmpty && Builtin.List.listTooLong (items.size + items2.size)) = true) (h1 : items.size ≤ sizeLine) (h2 : items.size + items2.size ≤ sizeLine + 1) :
    Meets (Builtin.«list.extend» ⟨[.ref l, .ref b], []⟩) (fun _ R s => s.heap.get? l = some { cls := .type "list", dict := none, data := .seq items n, slots := #[] } ∧ s.heap.get? b = some { cls := .type "tuple", dict := none, data := .seq items2 n2, slots := sl } ∧
      R (.ok (.ret Value.none)) { s with heap := s.heap.update l (Obj.mapSeq fun x => x ++ items2), toks := s.toks }) := .of_wp fun prog w A R s h => by
  obtain ⟨hp, g, d, tk, os⟩ := s
  obtain ⟨hl, hb, h⟩ := h
  have f2 := AutoSeq1.sub_tuple_tuple
  have f3 := AutoSeq1.sub_list_list
  have f4 := AutoSeq1.sub_tuple_list; have f5 := AutoSeq1.sub_list_tuple
  have hz' : (items ++ items2).size ≤ sizeLine + 1 := by rw [Array.size_append]; exact h2
  wp_walk using (wpAny_updateSeq hl rfl (hz := h1) (_hz' := hz')), AutoSeq1.wpAny_loadPart' hl, AutoSeq1.wpAny_loadPart' hb
  exact ⟨_, rfl, h⟩
def rExtendT (K : PySem.W.Frag) : V → List V → Hp → VK → Prop := fun x vs H Q => ∃ l b xs zs, x = .ref l ∧ vs = [.ref b] ∧ H l = some (.lst xs) ∧ H b = some (.tup zs) ∧ xs.length + zs.length ≤ sizeLine ∧ Q .non (upd H l (.lst (xs ++ zs)))
theorem mt_extendT : MtM X "list.extend" (rExtendT X.K) := by
  intro pins s σ H x vs v us Q I rx rv h
  obtain ⟨l, b, xs, zs, rfl, rfl, hH, hB, hz, q⟩ := h
  cases rx
  obtain ⟨u, rfl, ru⟩ := rv.one
  cases ru
  obtain ⟨z, its, n, r, hl, e⟩ := I.lstM hH
  obtain ⟨z2, its2, r2, ⟨cls, dd, data, sl⟩, e2, hc, ⟨n2, hd⟩, hdd⟩ := I.hok b _ hB
  have hl2 := r2.length
  have hsz : its.toArray.size + its2.toArray.size ≤ sizeLine := by rw [List.size_toArray, List.size_toArray]; omega
  have hlong : ¬ (!its.toArray.isEmpty && Builtin.List.listTooLong (its.toArray.size + its2.toArray.size)) = true := by rw [notLongL hsz, Bool.and_false]; exact Bool.false_ne_true
  simp only at hc hd hdd
  subst hc hd hdd
  refine call_meets F.slot_list_extend ⟨_, e, rfl⟩ F.entry_list_extend (F.args_list_extend_2 _ _) (extT l its.toArray n b its2.toArray n2 sl hlong (by rw [List.size_toArray]; omega) (by omega)) ⟨e, e2, ?_⟩
  refine ⟨.non, _, I.lset (its' := its ++ its2) hH e (by simp) (r.append r2) ?_, rfl, q⟩
  rw [List.length_append]
  omega
inductive DEq (K : PySem.W.Frag) (H : Hp) : Nat → V → V → Bool → Prop where
  | flat {d : Nat} {x y : V} (hx : flatV x = true) (hy : flatV y = true) : DEq K H d x y (eqV x y)
  | same {d : Nat} {a : Addr} : DEq K H d (.ref a) (.ref a) true
  | tup {d : Nat} {a b : Addr} {xs ys : List V} {e : Nat → Bool} (hab : a ≠ b) (ha : SqT K H a xs) (hb : SqT K H b ys) (he : ∀ j x y, xs[j]? = some x → ys[j]? = some y → DEq K H d x y (e j)) : DEq K H (d + 1) (.ref a) (.ref b) ((List.range (min xs.length ys.length)).all e && xs.length == ys.length)
  | tupStr {d : Nat} {a : Addr} {xs : List V} {z : Str} (ha : SqT K H a xs) : DEq K H (d + 1) (.ref a) (.str z) false
theorem in1_units (A : Around) : A.in1.units ≤ A.units + 1 := by
  first | exact Nat.le_refl _ | (unfold Around.in1; simp) | (simp [Around.in1])
theorem deq_all {K : PySem.W.Frag} {H : Hp} {d : Nat} {a b : Addr} {xs ys : List V} {e : Nat → Bool} {k : Bool} (hab : a ≠ b) (ha : SqT K H a xs) (hb : SqT K H b ys) (hl : xs.length = ys.length) (he : ∀ j x y, xs[j]? = some x → ys[j]? = some y → DEq K H d x y (e j)) (hk : (List.range xs.length).all e = k) : DEq K H (d + 1) (.ref a) (.ref b) k := by
  have := DEq.tup hab ha hb he
  rw [← hl, Nat.min_self, hk, beq_self_eq_true, Bool.and_true] at this
  exact this
theorem deq_at {pins : List (Addr × Obj)} {σ : St} {H : Hp} {s : Shared} (I : Inv X pins σ H s) : ∀ {d : Nat} {x y : V} {b : Bool}, DEq X.K H d x y b → ∀ {A : Around} {u v : Value}, RelV x u → RelV y v → A.units + d < cLine → SeqAt.EqAt A s u v b := by
  intro d x y b h
  induction h with
  | flat hx hy => intro A u v rx ry _; exact eqAt_V rx ry hx hy
  | same => intro A u v rx ry _; cases rx; cases ry; exact SeqAt.EqAt.same _
  | tupStr ha =>
    intro A u v rx ry hu
    cases rx
    obtain ⟨t, rfl⟩ := ry
    obtain ⟨its, r1, p1, _⟩ := I.tuple ha
    exact SeqAt.EqAt.tuple_str _ _ (show s.heap.IsTuple _ its.toArray from p1) (by omega)
  | tup hab ha hb he ih =>
    rename_i d' a b xs ys e
    intro A u v rx ry hu
    cases rx
    cases ry
    obtain ⟨its, r1, p1, _⟩ := I.tuple ha
    obtain ⟨its2, r2, p2, _⟩ := I.tuple hb
    have l1 := r1.length
    have l2 := r2.length
    have hi := in1_units A
    refine SeqAt.EqAt.of_refs hab ?_
    have key := SeqAt.RcAt.tuples (A := A) (e := e) (show s.heap.IsTuple a its.toArray from p1) (show s.heap.IsTuple b its2.toArray from p2) (by omega) (fun j h1 h2 => ?_)
    · rw [List.size_toArray, List.size_toArray, ← l1, ← l2] at key
      exact key
    · have h1' : j < xs.length := by rw [l1]; simpa using h1
      have h2' : j < ys.length := by rw [l2]; simpa using h2
      obtain ⟨v1, e1, rv1⟩ := r1.get (i := j) (x := xs[j]) (by simp [h1'])
      obtain ⟨v2, e2, rv2⟩ := r2.get (i := j) (x := ys[j]) (by simp [h2'])
      have i1 : its.toArray[j] = v1 := by
        have := (List.getElem?_eq_some_iff.mp e1).2
        simpa using this
      have i2 : its2.toArray[j] = v2 := by
        have := (List.getElem?_eq_some_iff.mp e2).2
        simpa using this
      rw [i1, i2]
      exact ih j xs[j] ys[j] (by simp [h1']) (by simp [h2']) rv1 rv2 (by omega)
def rEqB (K : PySem.W.Frag) (neg : Bool) : R2 := fun x y H Q => ∃ z : Str, y = .str z ∧ ((x = .non ∧ Q (.bl neg) H) ∨ (∃ a xs, x = .ref a ∧ SqT K H a xs ∧ Q (.bl neg) H) ∨ ∃ u, x = .str u ∧ Q (.bl (if neg then !decide (V.str u = V.str z) else decide (V.str u = V.str z))) H)
theorem op_eqB (hu : X.A.units < cLine) : OpR X (compareOp .Eq) (rEqB X.K false) := by
  intro pins s σ H x y v u Q I rx ry h
  obtain ⟨z, rfl, h⟩ := h
  obtain ⟨t, rfl⟩ := ry
  rcases h with ⟨rfl, q⟩ | ⟨a, xs, rfl, ha, q⟩ | ⟨w', rfl, q⟩
  · cases rx
    exact SeqAt.RcAt.none_str z t _ _ _ _ (fin_bl I q rfl)
  · cases rx
    obtain ⟨its, r1, p1, _⟩ := I.tuple ha
    exact SeqAt.RcAt.tuple_str z t (show s.heap.IsTuple a its.toArray from p1) hu _ _ _ _ (fin_bl I q rfl)
  · obtain ⟨t', rfl⟩ := rx
    exact SeqAt.RcAt.str_str w' t' z t _ _ _ _ (fin_bl I q dec_str)
end
end L2
namespace Tn
def mx2 (i j : Int) : Int := if j > i then j else i
def mn2 (i j : Int) : Int := if j < i then j else i
def mxL (l : List Int) : Int := l.foldl mx2 (-1)
def mnL (n : Int) (l : List Int) : Int := l.foldl mn2 n
theorem mxL_snoc (l : List Int) (x : Int) : mxL (l ++ [x]) = mx2 (mxL l) x := by unfold mxL; rw [List.foldl_append]; rfl
theorem mnL_snoc (n : Int) (l : List Int) (x : Int) : mnL n (l ++ [x]) = mn2 (mnL n l) x := by unfold mnL; rw [List.foldl_append]; rfl
theorem mxL_ge : ∀ (l : List Int) (g : Int), g ≤ l.foldl mx2 g ∧ ∀ w ∈ l, w ≤ l.foldl mx2 g
  | [], g => ⟨Int.le_refl _, fun _ h => nomatch h⟩
  | x :: l, g => by
    have h := mxL_ge l (mx2 g x)
    have h2 : g ≤ mx2 g x ∧ x ≤ mx2 g x := by unfold mx2; split <;> omega
    exact ⟨Int.le_trans h2.1 h.1, fun w hw => by
      rcases List.mem_cons.mp hw with rfl | hw
      · exact Int.le_trans h2.2 h.1
      · exact h.2 w hw⟩
theorem mxL_mem : ∀ (l : List Int) (g : Int), l.foldl mx2 g = g ∨ l.foldl mx2 g ∈ l
  | [], _ => .inl rfl
  | x :: l, g => by
    rcases mxL_mem l (mx2 g x) with h | h
    · have h2 : mx2 g x = g ∨ mx2 g x = x := by unfold mx2; split <;> simp
      show l.foldl mx2 (mx2 g x) = g ∨ l.foldl mx2 (mx2 g x) ∈ x :: l
      rw [h]
      rcases h2 with e | e
      · exact .inl e
      · rw [e]; exact .inr List.mem_cons_self
    · exact .inr (List.mem_cons_of_mem _ h)
theorem nd_len : ∀ {l m : List Int}, l.Nodup → (∀ a ∈ l, a ∈ m) → l.length ≤ m.length
  | [], _, _, _ => Nat.zero_le _
  | a :: l, m, nd, hs => by
    obtain ⟨h1, h2⟩ := List.nodup_cons.mp nd
    have ha : a ∈ m := hs a List.mem_cons_self
    have ih := nd_len (l := l) (m := m.erase a) h2 (fun b hb => by
      have hne : b ≠ a := fun e => h1 (e ▸ hb)
      exact (List.mem_erase_of_ne hne).mpr (hs b (List.mem_cons_of_mem _ hb)))
    have := (List.perm_cons_erase ha).length_eq
    simp only [List.length_cons] at this ⊢
    omega
def upB (ord : List Int) (p : Nat) : Bool := (ord.take p).all fun w => decide (w < (p : Int))
def dnB (ord : List Int) (p : Nat) : Bool := (ord.take p).all fun w => decide ((ord.length : Int) - (p : Int) ≤ w)
theorem upB_iff {ord : List Int} {p : Nat} : upB ord p = true ↔ ∀ w ∈ ord.take p, w < (p : Int) := by unfold upB; simp
theorem dnB_iff {ord : List Int} {p : Nat} : dnB ord p = true ↔ ∀ w ∈ ord.take p, (ord.length : Int) - (p : Int) ≤ w := by unfold dnB; simp
def negO (ord : List Int) : List Int := ord.map fun w => (ord.length : Int) - 1 - w
theorem negO_len (ord : List Int) : (negO ord).length = ord.length := by simp [negO]
theorem negO_ord {ord : List Int} (h : IsOrd ord) : IsOrd (negO ord) := by
  constructor
  rw [negO_len]
  refine perm_of_sub ?_ (fun a ha => ?_) (by rw [upto_len, negO_len]; exact Nat.le_refl _)
  · unfold negO
    rw [List.Nodup, List.pairwise_map]
    exact h.nodup.imp fun hne e => hne (by omega)
  · unfold negO at ha
    obtain ⟨w, hw, rfl⟩ := List.mem_map.mp ha
    have := h.mem.mp hw
    exact mem_upto.mpr ⟨by omega, by omega⟩
theorem dn_up (ord : List Int) (p : Nat) : dnB ord p = upB (negO ord) p := by
  rw [Bool.eq_iff_iff, dnB_iff, upB_iff]
  unfold negO
  rw [← List.map_take]
  constructor
  · intro h w hw
    obtain ⟨v, hv, rfl⟩ := List.mem_map.mp hw
    have := h v hv
    omega
  · intro h w hw
    have := h _ (List.mem_map.mpr ⟨w, hw, rfl⟩)
    omega
theorem take_drop_apart {ord : List Int} (h : ord.Nodup) {p : Nat} {a : Int} (h1 : a ∈ ord.take p) (h2 : a ∈ ord.drop p) : False := by
  rw [← List.take_append_drop p ord] at h
  exact (List.nodup_append.mp h).2.2 a h1 a h2 rfl
theorem take_nd {ord : List Int} (h : ord.Nodup) (p : Nat) : (ord.take p).Nodup := h.sublist (List.take_sublist p ord)
theorem up_iff {ord : List Int} (h : IsOrd ord) {p : Nat} (hp : p ≤ ord.length) : upB ord p = true ↔ ∀ a ∈ ord.take p, ∀ b ∈ ord.drop p, a < b := by
  rw [upB_iff]
  constructor
  · intro hu a ha b hb
    have pm : (ord.take p).Perm (upto p) := perm_of_sub (take_nd h.nodup p) (fun w hw => mem_upto.mpr ⟨(h.mem.mp (List.mem_of_mem_take hw)).1, hu w hw⟩) (by rw [upto_len, List.length_take]; omega)
    have hb0 := (h.mem.mp (List.mem_of_mem_drop hb)).1
    by_cases hlt : b < (p : Int)
    · exact absurd hb (fun hb => take_drop_apart h.nodup (pm.mem_iff.mpr (mem_upto.mpr ⟨hb0, hlt⟩)) hb)
    · have := hu a ha
      omega
  · intro hu w hw
    have hw0 := h.mem.mp (List.mem_of_mem_take hw)
    by_cases hlt : w < (p : Int)
    · exact hlt
    · exfalso
      have sub : ∀ v ∈ upto (w.toNat + 1), v ∈ ord.take p := fun v hv => by
        have hv := mem_upto.mp hv
        have hm : v ∈ ord := h.mem.mpr ⟨hv.1, by omega⟩
        rw [← List.take_append_drop p ord] at hm
        rcases List.mem_append.mp hm with hm | hm
        · exact hm
        · have := hu w hw v hm
          omega
      have := nd_len (upto_nodup _) sub
      rw [upto_len, List.length_take] at this
      omega
theorem mx_up {ord : List Int} (h : IsOrd ord) {p : Nat} (h1 : 1 ≤ p) (hp : p ≤ ord.length) : decide (mxL (ord.take p) = (p : Int) - 1) = upB ord p := by
  rw [Bool.eq_iff_iff, decide_eq_true_eq, upB_iff]
  have hge := mxL_ge (ord.take p) (-1)
  constructor
  · intro e w hw
    have := hge.2 w hw
    have e2 : (ord.take p).foldl mx2 (-1) = (p : Int) - 1 := e
    omega
  · intro hu
    have hm : mxL (ord.take p) ∈ ord.take p := by
      rcases mxL_mem (ord.take p) (-1) with e | e
      · exfalso
        have hne : ord.take p ≠ [] := fun z => by
          have := congrArg List.length z
          rw [List.length_take] at this
          simp only [List.length_nil] at this
          omega
        obtain ⟨w, hw⟩ := List.exists_mem_of_ne_nil _ hne
        have := hge.2 w hw
        have := (h.mem.mp (List.mem_of_mem_take hw)).1
        omega
      · exact e
    have hlt := hu _ hm
    have sub : ∀ v ∈ ord.take p, v ∈ upto (mxL (ord.take p) + 1).toNat := fun v hv => by
      have := hge.2 v hv
      have h0 := (h.mem.mp (List.mem_of_mem_take hv)).1
      have e2 : (ord.take p).foldl mx2 (-1) = mxL (ord.take p) := rfl
      exact mem_upto.mpr ⟨h0, by omega⟩
    have := nd_len (take_nd h.nodup p) sub
    rw [upto_len, List.length_take] at this
    omega
theorem mn_neg (n : Int) : ∀ (l : List Int) (g : Int), (l.map fun w => n - 1 - w).foldl mx2 (n - 1 - g) = n - 1 - l.foldl mn2 g
  | [], _ => rfl
  | x :: l, g => by
    show (l.map fun w => n - 1 - w).foldl mx2 (mx2 (n - 1 - g) (n - 1 - x)) = n - 1 - l.foldl mn2 (mn2 g x)
    rw [← mn_neg n l]
    congr 1
    unfold mx2 mn2
    split <;> split <;> omega
theorem mn_dn {ord : List Int} (h : IsOrd ord) {p : Nat} (h1 : 1 ≤ p) (hp : p ≤ ord.length) : decide (mnL ord.length (ord.take p) = (ord.length : Int) - (p : Int)) = dnB ord p := by
  rw [dn_up, ← mx_up (negO_ord h) h1 (by rw [negO_len]; exact hp)]
  unfold negO mxL mnL
  rw [← List.map_take, show ((-1 : Int)) = (ord.length : Int) - 1 - (ord.length : Int) by omega, mn_neg]
  congr 1
  simp only [eq_iff_iff]
  omega
theorem dn_iff {ord : List Int} (h : IsOrd ord) {p : Nat} (hp : p ≤ ord.length) : dnB ord p = true ↔ ∀ a ∈ ord.take p, ∀ b ∈ ord.drop p, b < a := by
  rw [dn_up, up_iff (negO_ord h) (by rw [negO_len]; exact hp)]
  unfold negO
  rw [← List.map_take, ← List.map_drop]
  constructor
  · intro hu a ha b hb
    have := hu _ (List.mem_map.mpr ⟨a, ha, rfl⟩) _ (List.mem_map.mpr ⟨b, hb, rfl⟩)
    omega
  · intro hu a ha b hb
    obtain ⟨a', ha', rfl⟩ := List.mem_map.mp ha
    obtain ⟨b', hb', rfl⟩ := List.mem_map.mp hb
    have := hu a' ha' b' hb'
    omega
def places (ord : List Int) (q : Nat → Bool) (k : Nat) : List Nat := ((List.range k).map (· + 1)).filter q
def risF (ord : List Int) : List Nat := places ord (upB ord) (ord.length - 1)
def falF (ord : List Int) : List Nat := places ord (dnB ord) (ord.length - 1)
theorem places_succ (ord : List Int) (q : Nat → Bool) (k : Nat) : places ord q (k + 1) = places ord q k ++ (if q (k + 1) = true then [k + 1] else []) := by
  unfold places
  rw [List.range_succ, List.map_append, List.filter_append]
  congr 1
  show List.filter q [k + 1] = _
  by_cases h : q (k + 1) = true
  · rw [List.filter_cons_of_pos h, if_pos h]; rfl
  · rw [List.filter_cons_of_neg h, if_neg h]; rfl
theorem places_len (ord : List Int) (q : Nat → Bool) (k : Nat) : (places ord q k).length ≤ k := by
  unfold places
  refine Nat.le_trans (List.length_filter_le _ _) ?_
  rw [List.length_map, List.length_range]
  exact Nat.le_refl _
end Tn
namespace Tn
def RiseAt (l : List Int) (p : Nat) : Prop := ∀ a ∈ l.take p, ∀ b ∈ l.drop p, a < b
def FallAt (l : List Int) (p : Nat) : Prop := ∀ a ∈ l.take p, ∀ b ∈ l.drop p, b < a
def Bar1 (w x y z : Int) : Prop := y < w ∧ w < z ∧ z < x
def Bar2 (w x y z : Int) : Prop := x < z ∧ z < w ∧ w < y
def HasBar (l : List Int) : Prop := ∃ (i j k m : Nat) (w x y z : Int), i < j ∧ j < k ∧ k < m ∧ l[i]? = some w ∧ l[j]? = some x ∧ l[k]? = some y ∧ l[m]? = some z ∧ (Bar1 w x y z ∨ Bar2 w x y z)
theorem HasBar.snoc {l : List Int} (v : Int) (h : HasBar l) : HasBar (l ++ [v]) := by
  obtain ⟨i, j, k, m, w, x, y, z, h1, h2, h3, e1, e2, e3, e4, hb⟩ := h
  have up : ∀ {n : Nat} {u : Int}, l[n]? = some u → (l ++ [v])[n]? = some u := fun e => by
    rw [List.getElem?_append_left (List.getElem?_eq_some_iff.mp e).1]; exact e
  exact ⟨i, j, k, m, w, x, y, z, h1, h2, h3, up e1, up e2, up e3, up e4, hb⟩
theorem HasBar.neg {l : List Int} (h : HasBar (l.map fun w => -w)) : HasBar l := by
  obtain ⟨i, j, k, m, w, x, y, z, h1, h2, h3, e1, e2, e3, e4, hb⟩ := h
  have un : ∀ {n : Nat} {u : Int}, (l.map fun w => -w)[n]? = some u → l[n]? = some (-u) := fun {n u} e => by
    rw [List.getElem?_map] at e
    cases hl : l[n]? with
    | none => rw [hl] at e; cases e
    | some t => rw [hl] at e; have := Option.some.inj e; rw [← this, Int.neg_neg]
  refine ⟨i, j, k, m, -w, -x, -y, -z, h1, h2, h3, un e1, un e2, un e3, un e4, ?_⟩
  rcases hb with hb | hb
  · right; unfold Bar1 at hb; unfold Bar2; omega
  · left; unfold Bar2 at hb; unfold Bar1; omega
theorem fall_neg {l : List Int} {p : Nat} : FallAt l p ↔ RiseAt (l.map fun w => -w) p := by
  unfold FallAt RiseAt
  rw [← List.map_take, ← List.map_drop]
  constructor
  · intro h a ha b hb
    obtain ⟨a', ha', rfl⟩ := List.mem_map.mp ha
    obtain ⟨b', hb', rfl⟩ := List.mem_map.mp hb
    have := h a' ha' b' hb'
    omega
  · intro h a ha b hb
    have := h _ (List.mem_map.mpr ⟨a, ha, rfl⟩) _ (List.mem_map.mpr ⟨b, hb, rfl⟩)
    omega
theorem rise_neg {l : List Int} {p : Nat} : RiseAt l p ↔ FallAt (l.map fun w => -w) p := by
  rw [fall_neg, List.map_map]
  have : ((fun w => -w) ∘ fun w : Int => -w) = id := by funext w; exact Int.neg_neg w
  rw [this, List.map_id]
theorem rise_step {l : List Int} {v : Int} {p : Nat} (nd : (l ++ [v]).Nodup) (p0 : 0 < p) (p1 : p < l.length) (h : RiseAt l p) :
    (∃ q, 0 < q ∧ q < l.length + 1 ∧ RiseAt (l ++ [v]) q) ∨ (∃ q, 0 < q ∧ q < l.length + 1 ∧ FallAt (l ++ [v]) q) ∨ HasBar (l ++ [v]) := by
  have tk : ∀ q, q ≤ l.length → (l ++ [v]).take q = l.take q := fun q hq => List.take_append_of_le_length hq
  have dr : ∀ q, q ≤ l.length → (l ++ [v]).drop q = l.drop q ++ [v] := fun q hq => List.drop_append_of_le_length hq
  by_cases hA : ∀ a ∈ l.take p, a < v
  · refine .inl ⟨p, p0, by omega, fun a ha b hb => ?_⟩
    rw [tk p (by omega)] at ha
    rw [dr p (by omega)] at hb
    rcases List.mem_append.mp hb with hb | hb
    · exact h a ha b hb
    · rw [List.mem_singleton.mp hb]; exact hA a ha
  ·
    have hvl : v ∉ l := fun hm => (List.nodup_append.mp nd).2.2 v hm v List.mem_cons_self rfl
    obtain ⟨u, hu, huv⟩ : ∃ u ∈ l.take p, ¬ u < v := by
      simpa using hA
    have huv : v < u := by
      have : u ≠ v := fun e => hvl (e ▸ List.mem_of_mem_take hu)
      omega
    obtain ⟨iu, hiu, eu⟩ := List.getElem_of_mem hu
    rw [List.length_take] at hiu
    rw [List.getElem_take] at eu
    have hB : ∀ b ∈ l.drop p, u < b := fun b hb => h u hu b hb
    by_cases hL : ∀ a ∈ l, v < a
    · refine .inr (.inl ⟨l.length, by omega, by omega, fun a ha b hb => ?_⟩)
      rw [tk _ (Nat.le_refl _), List.take_length] at ha
      rw [dr _ (Nat.le_refl _), List.drop_length, List.nil_append] at hb
      rw [List.mem_singleton.mp hb]; exact hL a ha
    ·
      obtain ⟨bb, hbb⟩ : ∃ bb, bb ∈ l.drop p := by
        refine ⟨l[p], ?_⟩
        rw [List.drop_eq_getElem_cons p1]; exact List.mem_cons_self
      obtain ⟨ib, hib, eb⟩ := List.getElem_of_mem hbb
      rw [List.length_drop] at hib
      rw [List.getElem_drop] at eb
      by_cases hC : ∃ i j : Nat, ∃ (hi : i < j) (hj : j < p), v < l[i]'(by omega) ∧ l[j]'(by omega) < v
      · obtain ⟨i, j, hi, hj, g1, g2⟩ := hC
        refine .inr (.inr ⟨i, j, p + ib, l.length, l[i]'(by omega), l[j]'(by omega), bb, v, hi, by omega, by omega, ?_, ?_, ?_, ?_, .inr ⟨g2, g1, ?_⟩⟩)
        · rw [List.getElem?_append_left (by omega), List.getElem?_eq_getElem]
        · rw [List.getElem?_append_left (by omega), List.getElem?_eq_getElem]
        · rw [List.getElem?_append_left (by omega), List.getElem?_eq_getElem (by omega), eb]
        · rw [List.getElem?_append_right (Nat.le_refl _)]; simp
        · refine h _ ?_ _ hbb
          have : l[i]'(by omega) = (l.take p)[i]'(by rw [List.length_take]; omega) := by rw [List.getElem_take]
          rw [this]; exact List.getElem_mem _
      ·
        have hC' : ∀ i j : Nat, (hi : i < j) → (hj : j < p) → v < l[i]'(by omega) → v < l[j]'(by omega) := fun i j hi hj g => by
          by_cases g2 : l[j]'(by omega) < v
          · exact absurd ⟨i, j, hi, hj, g, g2⟩ hC
          · have : l[j]'(by omega) ≠ v := fun e => hvl (e ▸ List.getElem_mem _)
            omega
        have gd : ∀ i, (hi : i < l.length) → l[i]?.getD 0 = l[i] := fun i hi => by rw [List.getElem?_eq_getElem hi]; rfl
        have ex : ∃ q, q ≤ iu ∧ (∀ i, i < q → l[i]?.getD 0 < v) ∧ v < l[q]?.getD 0 := by
          have gen : ∀ n, n ≤ iu → (∀ i, i < n → l[i]?.getD 0 < v) ∨ ∃ q, q ≤ iu ∧ (∀ i, i < q → l[i]?.getD 0 < v) ∧ v < l[q]?.getD 0 := by
            intro n
            induction n with
            | zero => intro _; exact .inl fun i hi => absurd hi (Nat.not_lt_zero _)
            | succ n ih =>
              intro hn
              rcases ih (by omega) with hh | hh
              · by_cases g : l[n]?.getD 0 < v
                · refine .inl fun i hi => ?_
                  by_cases e : i = n
                  · subst e; exact g
                  · exact hh i (by omega)
                · refine .inr ⟨n, by omega, fun i hi => hh i hi, ?_⟩
                  have hnl : n < l.length := by omega
                  rw [gd n hnl] at g ⊢
                  have : l[n] ≠ v := fun e => hvl (e ▸ List.getElem_mem _)
                  omega
              · exact .inr hh
          rcases gen iu (Nat.le_refl _) with hh | hh
          · refine ⟨iu, Nat.le_refl _, hh, ?_⟩
            rw [gd iu (by omega), eu]
            exact huv
          · exact hh
        obtain ⟨q, hq, hlow, hhigh⟩ := ex
        rw [List.getElem?_eq_getElem (by omega)] at hhigh
        have hhigh : v < l[q]'(by omega) := hhigh
        by_cases hq0 : q = 0
        ·
          subst hq0
          exfalso
          apply hL
          intro a ha
          obtain ⟨ia, hia, ea⟩ := List.getElem_of_mem ha
          by_cases c : ia < p
          · by_cases c0 : ia = 0
            · subst c0; rw [← ea]; exact hhigh
            · rw [← ea]; exact hC' 0 ia (by omega) c hhigh
          · have : a ∈ l.drop p := by
              rw [← ea, show l[ia] = (l.drop p)[ia - p]'(by rw [List.length_drop]; omega) by rw [List.getElem_drop]; congr 1; omega]
              exact List.getElem_mem _
            have := hB a this
            omega
        · refine .inl ⟨q, by omega, by omega, fun a ha b hb => ?_⟩
          rw [tk q (by omega)] at ha
          rw [dr q (by omega)] at hb
          obtain ⟨ia, hia, ea⟩ := List.getElem_of_mem ha
          rw [List.length_take] at hia
          rw [List.getElem_take] at ea
          have hav := hlow ia (by omega)
          rw [gd ia (by omega), ea] at hav
          rcases List.mem_append.mp hb with hb | hb
          · obtain ⟨ic, hic, ec⟩ := List.getElem_of_mem hb
            rw [List.length_drop] at hic
            rw [List.getElem_drop] at ec
            by_cases c : q + ic < p
            · have : v < b := by
                by_cases c0 : ic = 0
                · subst c0; rw [← ec]; exact hhigh
                · rw [← ec]; exact hC' q (q + ic) (by omega) c hhigh
              omega
            · have : b ∈ l.drop p := by
                rw [← ec, show l[q + ic] = (l.drop p)[q + ic - p]'(by rw [List.length_drop]; omega) by rw [List.getElem_drop]; congr 1; omega]
                exact List.getElem_mem _
              have := hB b this
              omega
          · rw [List.mem_singleton.mp hb]; exact hav
theorem cut_or_bar : ∀ (n : Nat) (l : List Int), l.length = n + 2 → l.Nodup → (∃ q, 0 < q ∧ q < l.length ∧ RiseAt l q) ∨ (∃ q, 0 < q ∧ q < l.length ∧ FallAt l q) ∨ HasBar l
  | 0, l, hl, nd => by
    match l, hl with
    | [a, b], _ =>
      have hne : a ≠ b := fun e => by subst e; simp at nd
      by_cases h : a < b
      · exact .inl ⟨1, by decide, by simp, fun x hx y hy => by simp at hx hy; omega⟩
      · exact .inr (.inl ⟨1, by decide, by simp, fun x hx y hy => by simp at hx hy; omega⟩)
  | n + 1, l, hl, nd => by
    obtain ⟨r, v, rfl⟩ : ∃ r v, l = r ++ [v] := by
      have hne : l ≠ [] := fun e => by rw [e] at hl; simp at hl
      exact ⟨l.dropLast, l.getLast hne, (List.dropLast_concat_getLast hne).symm⟩
    have hr : r.length = n + 2 := by simp at hl; omega
    have ndr : r.Nodup := (List.nodup_append.mp nd).1
    rcases cut_or_bar n r hr ndr with ⟨p, p0, p1, h⟩ | ⟨p, p0, p1, h⟩ | h
    · rw [List.length_append]
      exact rise_step nd p0 p1 h
    · have nd' : ((r.map fun w => -w) ++ [-v]).Nodup := by
        have : (r.map fun w => -w) ++ [-v] = (r ++ [v]).map fun w => -w := by rw [List.map_append]; rfl
        rw [this, List.Nodup, List.pairwise_map]
        exact nd.imp fun hne e => hne (by omega)
      have e : (r.map fun w => -w) ++ [-v] = (r ++ [v]).map fun w => -w := by rw [List.map_append]; rfl
      rcases rise_step nd' p0 (by rw [List.length_map]; exact p1) (fall_neg.mp h) with ⟨q, q0, q1, hh⟩ | ⟨q, q0, q1, hh⟩ | hh
      · rw [List.length_map] at q1
        rw [e] at hh
        exact .inr (.inl ⟨q, q0, by simp; omega, fall_neg.mpr hh⟩)
      · rw [List.length_map] at q1
        rw [e] at hh
        exact .inl ⟨q, q0, by simp; omega, rise_neg.mpr hh⟩
      · rw [e] at hh
        exact .inr (.inr hh.neg)
    · exact .inr (.inr (h.snoc v))
end Tn
namespace L2
open PySem PySem.Spec PyProof.Rows
section
variable {X : Cx}
end
end L2
namespace Tn
open PySem L2
mutual
def rowN : Nest → Int → List Int
  | .word, f => [f]
  | .knot k ps, f => (if k then rowsN ps f else (rowsN ps f).reverse).flatten
  | .bad, _ => []
def rowsN : List Nest → Int → List (List Int)
  | [], _ => []
  | n :: r, f => rowN n f :: rowsN r (f + ((rowN n f).length : Int))
end
theorem flat_rev_perm (l : List (List Int)) : l.reverse.flatten.Perm l.flatten := by
  induction l with
  | nil => exact .refl _
  | cons a l ih =>
    rw [List.reverse_cons, List.flatten_append, List.flatten_cons, List.flatten_cons, List.flatten_nil, List.append_nil]
    exact List.perm_append_comm.trans (List.Perm.append_left a ih)
def fromTo (f : Int) (n : Nat) : List Int := (upto n).map fun z => f + z
theorem fromTo_add (f : Int) (a b : Nat) : fromTo f (a + b) = fromTo f a ++ fromTo (f + (a : Int)) b := by
  unfold fromTo upto
  rw [List.range_add, List.map_append, List.map_append, List.map_map, List.map_map, List.map_map, List.map_map]
  congr 1
  apply List.map_congr_left
  intro i _
  show f + ((a + i : Nat) : Int) = f + (a : Int) + (i : Int)
  omega
mutual
theorem row_perm : ∀ (n : Nest) (o : Option Bool) (f : Int), valid o n = true → (rowN n f).Perm (fromTo f (words n))
  | .word, _, f, _ => by
    rw [rowN, words]
    show [f].Perm [f + 0]
    rw [Int.add_zero]
  | .knot k ps, o, f, h => by
    have hv : validL k ps = true := by simp only [valid, Bool.and_eq_true] at h; exact h.2
    have ih := rows_perm ps k f hv
    rw [rowN, words]
    cases k
    · exact (flat_rev_perm _).trans ih
    · exact ih
  | .bad, _, _, h => by simp [valid] at h
theorem rows_perm : ∀ (ps : List Nest) (k : Bool) (f : Int), validL k ps = true → (rowsN ps f).flatten.Perm (fromTo f (wordsL ps))
  | [], _, f, _ => by rw [rowsN, wordsL]; exact .refl _
  | n :: r, k, f, h => by
    simp only [validL, Bool.and_eq_true] at h
    have h1 := row_perm n (some k) f h.1
    have hl : (rowN n f).length = words n := by rw [h1.length_eq]; simp [fromTo, upto]
    have h2 := rows_perm r k (f + ((rowN n f).length : Int)) h.2
    rw [rowsN, wordsL, List.flatten_cons, fromTo_add]
    rw [hl] at h2 ⊢
    exact h1.append h2
end
theorem row_len {n : Nest} {o : Option Bool} (f : Int) (h : valid o n = true) : (rowN n f).length = words n := by
  rw [(row_perm n o f h).length_eq]; simp [fromTo, upto]
theorem row_ord {n : Nest} {o : Option Bool} (h : valid o n = true) : IsOrd (rowN n 0) ∧ (rowN n 0).length = words n := by
  have := row_perm n o 0 h
  refine IsOrd.of_perm (this.trans ?_)
  unfold fromTo
  rw [show (fun z : Int => 0 + z) = id by funext z; exact Int.zero_add z, List.map_id]
def partsOf (k : Bool) : Nest → List Nest
  | .knot k' ps => if k' = k then ps else [.knot k' ps]
  | n => [n]
theorem valid_some {k : Bool} : ∀ {n : Nest}, valid none n = true → (∀ ps, n ≠ .knot k ps) → valid (some k) n = true
  | .word, _, _ => rfl
  | .knot k' ps, h, hn => by
    simp only [valid, Bool.and_eq_true] at h ⊢
    refine ⟨?_, h.2⟩
    have : k' ≠ k := fun e => hn ps (by rw [e])
    simp [this.symm, Ne.symm this]
  | .bad, h, _ => by simp [valid] at h
theorem parts_valid {k : Bool} {n : Nest} (h : valid none n = true) : validL k (partsOf k n) = true ∧ wordsL (partsOf k n) = words n := by
  cases n with
  | word => exact ⟨rfl, rfl⟩
  | bad => simp [valid] at h
  | knot k' ps =>
    unfold partsOf
    by_cases e : k' = k
    · subst e
      dsimp only
      rw [if_pos rfl]
      simp only [valid, Bool.and_eq_true] at h
      exact ⟨h.2, by rw [words]⟩
    · dsimp only
      rw [if_neg e]
      refine ⟨?_, by simp [wordsL]⟩
      simp only [validL, Bool.and_true]
      exact valid_some h fun ps' z => e (by injection z)
def LstsAt (H : Hp) (ps : List Addr) (xss : List (List Int)) : Prop := Paired (fun p xs => H p = some (.lst (xs.map V.int))) ps xss
theorem LstsAt.len {H : Hp} : ∀ {ps : List Addr} {xss : List (List Int)}, LstsAt H ps xss → ps.length = xss.length
  | _, _, .nil => rfl
  | _, _, .cons _ t => congrArg (· + 1) (LstsAt.len t)
theorem LstsAt.get {H : Hp} : ∀ {ps : List Addr} {xss : List (List Int)} {i : Nat} {p : Addr}, LstsAt H ps xss → ps[i]? = some p → ∃ xs, xss[i]? = some xs ∧ H p = some (.lst (xs.map V.int))
  | _, _, _, _, .nil, e => by simp at e
  | _, _, 0, _, .cons h _, e => by simp at e; subst e; exact ⟨_, rfl, h⟩
  | _, _, i + 1, p, .cons _ t, e => by
    obtain ⟨x, h1, h2⟩ := LstsAt.get (i := i) (p := p) t (by simpa using e)
    exact ⟨x, by simpa using h1, h2⟩
theorem LstsAt.mono {H H' : Hp} (s : Same H H') : ∀ {ps : List Addr} {xss : List (List Int)}, LstsAt H ps xss → LstsAt H' ps xss
  | _, _, .nil => .nil
  | _, _, .cons h t => .cons (s _ _ h) (LstsAt.mono s t)
theorem LstsAt.upd {H : Hp} {l : Addr} {o : HO} : ∀ {ps : List Addr} {xss : List (List Int)}, l ∉ ps → LstsAt H ps xss → LstsAt (L2.upd H l o) ps xss
  | _, _, _, .nil => .nil
  | p :: _, _ :: _, hn, .cons h t => .cons (by rw [upd_ne (fun z => hn (by rw [← z]; exact List.mem_cons_self))]; exact h) (LstsAt.upd (fun z => hn (List.mem_cons_of_mem _ z)) t)
theorem LstsAt.app {H : Hp} : ∀ {ps qs : List Addr} {xss yss : List (List Int)}, LstsAt H ps xss → LstsAt H qs yss → LstsAt H (ps ++ qs) (xss ++ yss)
  | _, _, _, _, .nil, h => h
  | _, _, _, _, .cons a t, h => .cons a (LstsAt.app t h)
theorem wordsL_at : ∀ {ps : List Nest} {i : Nat} {n : Nest}, ps[i]? = some n → words n ≤ wordsL ps
  | [], _, _, h => by simp at h
  | m :: r, 0, n, h => by simp at h; subst h; rw [wordsL]; omega
  | m :: r, i + 1, n, h => by have := wordsL_at (ps := r) (i := i) (n := n) (by simpa using h); rw [wordsL]; omega
theorem cutN_head (xs : List V) (k : Nat) (h : k ≤ xs.length) : cutV xs none (some (k : Int)) = xs.take k := by
  unfold cutV
  rw [HT.sIx_none, HT.sIx_nat, Nat.min_eq_left h]
  simp
theorem cutN_tail (xs : List V) (k : Nat) (h : k ≤ xs.length) : cutV xs (some (k : Int)) none = xs.drop k := by
  unfold cutV
  rw [HT.sIx_none, HT.sIx_nat, Nat.min_eq_left h, List.take_of_length_le (by simp)]
def natV (l : List Nat) : List V := l.map fun (n : Nat) => V.int (n : Int)
def cutF (ord : List Int) : Str × List Nat := if risF ord = [] then (if falF ord = [] then ("", []) else ("-", falF ord)) else ("+", risF ord)
def CutAt (H : Hp) (c : Str × List Nat) (t p : Addr) : Prop := H t = some (.tup [.str c.1, .ref p]) ∧ H p = some (.tup (natV c.2))
def spCuts (K : PySem.W.Frag) : Sp := fun vs H Q _ => ∃ (o : Addr) (ord : List Int), vs = [.ref o] ∧ SqT K H o (ord.map V.int) ∧ IsOrd ord ∧ 1 ≤ ord.length ∧ ord.length ≤ 1000 ∧ ∀ (t p : Addr) (H' : Hp), H t = none → H p = none → CutAt H' (cutF ord) t p → Same H H' → Q (.ref t) H'
end Tn
namespace Tn
open PySem PySem.Spec PyProof.Rows
theorem nz {n : Nat} (i j : Nat) (h : (i == j) = false := by decide) : n + i ≠ n + j := fun z => by
  have : i = j := by omega
  rw [this] at h
  simp at h
section
variable {prog : Program} {w : World} {A : Around} {E : Value → Shared → Prop} {s : Shared} {n : Nat} {t1 t2 : Addr} {k : Nat} {xs ys : Array Value} {x y a b : Value}
theorem zipT_item {Q : Value → Shared → Prop} (d1 : t1 ≠ n + 4) (d2 : t2 ≠ n + 4 ∧ t2 ≠ n + 3 ∧ t2 ≠ n + 0) (hz : IsZip s.heap (n + 4) (n + 2) (n + 3) .none) (hTI : IsPair s.heap (n + 2) (.ref (n + 0)) (.ref (n + 1))) (hTO : IsPair s.heap (n + 3) a b)
    (h1 : s.heap.IsTupleIter (n + 0) t1 k) (h2 : s.heap.IsTupleIter (n + 1) t2 k) (p1 : s.heap.IsTuple t1 xs) (p2 : s.heap.IsTuple t2 ys) (hx : xs[k]? = some x) (hy : ys[k]? = some y)
    (hQ : ∀ h', IsZip h' (n + 4) (n + 2) (n + 3) (rawInt s.heap.objs.size) → IsPair h' (n + 3) x y → h'.IsTupleIter (n + 0) t1 (k + 1) → h'.IsTupleIter (n + 1) t2 (k + 1) → IsPair h' s.heap.objs.size x y →
      (∀ c o, c ≠ n + 4 → c ≠ n + 3 → c ≠ n + 0 → c ≠ n + 1 → s.heap.get? c = some o → h'.get? c = some o) → Q (.ref s.heap.objs.size) { s with heap := h' }) :
    wpAny (model prog w) A (Builtin.«zip.__next__» ⟨[.ref (n + 4)], []⟩) (fun fin s' => ∃ v, fin = .done (.ret v) ∧ Q v s') E s := by
  show wpAny _ _ (field (.ref (n + 4)) 2 >>= _) _ _ _
  refine wpAny_bind (wpAny_field hz rfl (x := .bool false) rfl ?_)
  show wpAny _ _ (field (.ref (n + 4)) 3 >>= _) _ _ _
  refine wpAny_bind (wpAny_field hz rfl (x := .ref (n + 2)) rfl ?_)
  refine wpAny_bind (wpAny_seqItems hTI rfl ?_)
  show wpAny _ _ (Builtin.SmallTypes.ownedTupleIsFree (.ref (n + 4)) >>= _) _ _ _
  refine wpAny_bind ?_
  unfold Builtin.SmallTypes.ownedTupleIsFree
  refine wpAny_bind (wpAny_field hz rfl (x := .none) rfl (wpAny_pure ?_))
  simp only [if_true]
  refine wpAny_bind (wpAny_rule ?_)
  refine wpAny_bind (wpAny_field hz rfl (x := .ref (n + 3)) rfl ?_)
  refine wpAny_bind (wpAny_setField_rec hz (by simp) fun g1 z1 s1 => ?_)
  replace z1 : IsZip g1 (n + 4) (n + 2) (n + 3) .ellipsis := z1
  refine wpAny_bind ?_
  simp only [List.zipIdx_cons, List.zipIdx_nil, List.forIn_cons, List.forIn_nil]
  refine wpAny_bind (wpAny_bind (wpAny_onRaise ?_))
  show wpAny _ _ (Builtin.SmallTypes.nextOf (.ref (n + 0)) >>= _) _ _ _
  refine wpAny_bind (nextT_item (tupIter_at h1 fun o e => s1.extBut _ _ (nz 0 4) e) (tup_at p1 fun o e => s1.extBut _ _ d1 e) hx fun g2 i2 s2 => wpAny_pure ?_)
  have o2 : IsPair g2 (n + 3) a b := s2.extBut _ _ (nz 3 0) (s1.extBut _ _ (nz 3 4) hTO)
  refine wpAny_bind (wpAny_seqItems o2 rfl ?_)
  refine wpAny_bind (wpAny_updateSeq_pair o2 fun g3 o3 s3 => ?_)
  replace o3 : IsPair g3 (n + 3) x b := o3
  refine wpAny_bind (wpAny_letGo (wpAny_pure ?_))
  refine wpAny_bind (wpAny_bind (wpAny_onRaise ?_))
  show wpAny _ _ (Builtin.SmallTypes.nextOf (.ref (n + 1)) >>= _) _ _ _
  have up3 : ∀ c o, c ≠ n + 4 → c ≠ n + 3 → c ≠ n + 0 → s.heap.get? c = some o → g3.get? c = some o := fun c o c4 c3 c0 e => s3.extBut _ _ c3 (s2.extBut _ _ c0 (s1.extBut _ _ c4 e))
  refine wpAny_bind (nextT_item (tupIter_at h2 fun o e => up3 _ o (nz 1 4) (nz 1 3) (nz 1 0) e) (tup_at p2 fun o e => up3 _ o d2.1 d2.2.1 d2.2.2 e) hy fun g4 i4 s4 => wpAny_pure ?_)
  have o4 : IsPair g4 (n + 3) x b := s4.extBut _ _ (nz 3 1) o3
  refine wpAny_bind (wpAny_seqItems o4 rfl ?_)
  refine wpAny_bind (wpAny_updateSeq_pair o4 fun g5 o5 s5 => ?_)
  replace o5 : IsPair g5 (n + 3) x y := o5
  refine wpAny_bind (wpAny_letGo (wpAny_pure (wpAny_pure ?_)))
  refine wpAny_bind (wpAny_seqItems o5 rfl ?_)
  refine wpAny_bind (wpAny_newTuple ?_)
  have hsz : g5.objs.size = s.heap.objs.size := by rw [s5.1, s4.1, s3.1, s2.1, s1.1]
  have z5 : IsZip g5 (n + 4) (n + 2) (n + 3) .ellipsis := s5.extBut _ _ (nz 4 3) (s4.extBut _ _ (nz 4 1) (s3.extBut _ _ (nz 4 3) (s2.extBut _ _ (nz 4 0) z1)))
  have up5 : ∀ c o, c ≠ n + 4 → c ≠ n + 3 → c ≠ n + 0 → c ≠ n + 1 → s.heap.get? c = some o → g5.get? c = some o := fun c o c4 c3 c0 c1 e => s5.extBut _ _ c3 (s4.extBut _ _ c1 (up3 c o c4 c3 c0 e))
  have i5 : g5.IsTupleIter (n + 0) t1 (k + 1) := tupIter_at i2 fun o e => s5.extBut _ _ (nz 0 3) (s4.extBut _ _ (nz 0 1) (s3.extBut _ _ (nz 0 3) e))
  have j5 : g5.IsTupleIter (n + 1) t2 (k + 1) := tupIter_at i4 fun o e => s5.extBut _ _ (nz 1 3) e
  have zlt : n + 4 < g5.objs.size := Heap.lt_size z5
  show wpAny _ _ (Builtin.SmallTypes.ownedTupleHandOut (.ref (n + 4)) (.ref g5.objs.size) >>= _) _ _ _
  refine wpAny_bind ?_
  unfold Builtin.SmallTypes.ownedTupleHandOut
  have z6 : IsZip (g5.push { cls := .type "tuple", data := .seq #[x, y] }) (n + 4) (n + 2) (n + 3) .ellipsis := Heap.get?_push_of_some _ z5
  refine wpAny_bind (wpAny_setField_rec z6 (by simp) fun g7 z7 s7 => ?_)
  replace z7 : IsZip g7 (n + 4) (n + 2) (n + 3) (rawInt g5.objs.size) := z7
  refine wpAny_setField_rec z7 (by simp) fun g8 z8 s8 => ?_
  replace z8 : IsZip g8 (n + 4) (n + 2) (n + 3) (rawInt g5.objs.size) := z8
  have up8 : ∀ c o, c ≠ n + 4 → g5.get? c = some o → g8.get? c = some o := fun c o c4 e => s8.extBut _ _ c4 (s7.extBut _ _ c4 (Heap.get?_push_of_some _ e))
  have t8 : IsPair g8 g5.objs.size x y := s8.extBut _ _ (Nat.ne_of_gt zlt) (s7.extBut _ _ (Nat.ne_of_gt zlt) (Heap.get?_push_size _ rfl))
  rw [hsz] at z8 t8
  refine wpAny_pure ⟨_, rfl, ?_⟩
  show Q (.ref g5.objs.size) _
  rw [hsz]
  exact hQ g8 z8 (up8 _ _ (nz 3 4) o5) (tupIter_at i5 fun o e => up8 _ o (nz 0 4) e) (tupIter_at j5 fun o e => up8 _ o (nz 1 4) e) t8 fun c o c4 c3 c0 c1 e => up8 c o c4 (up5 c o c4 c3 c0 c1 e)
theorem zipT_end {Q : Fin → Shared → Prop} (hh : A.handled = none) (d1 : t1 ≠ n + 4) (hz : IsZip s.heap (n + 4) (n + 2) (n + 3) .none) (hTI : IsPair s.heap (n + 2) (.ref (n + 0)) (.ref (n + 1)))
    (h1 : s.heap.IsTupleIter (n + 0) t1 k) (p1 : s.heap.IsTuple t1 xs) (hx : xs[k]? = none)
    (hE : ∀ h' e, (∀ c o, c ≠ n + 4 → c ≠ n + 0 → s.heap.get? c = some o → h'.get? c = some o) → (∃ o, h'.get? e = some o ∧ o.cls = .type "StopIteration") → E (.ref e) { s with heap := h' }) :
    wpAny (model prog w) A (Builtin.«zip.__next__» ⟨[.ref (n + 4)], []⟩) Q E s := by
  show wpAny _ _ (field (.ref (n + 4)) 2 >>= _) _ _ _
  refine wpAny_bind (wpAny_field hz rfl (x := .bool false) rfl ?_)
  show wpAny _ _ (field (.ref (n + 4)) 3 >>= _) _ _ _
  refine wpAny_bind (wpAny_field hz rfl (x := .ref (n + 2)) rfl ?_)
  refine wpAny_bind (wpAny_seqItems hTI rfl ?_)
  show wpAny _ _ (Builtin.SmallTypes.ownedTupleIsFree (.ref (n + 4)) >>= _) _ _ _
  refine wpAny_bind ?_
  unfold Builtin.SmallTypes.ownedTupleIsFree
  refine wpAny_bind (wpAny_field hz rfl (x := .none) rfl (wpAny_pure ?_))
  simp only [if_true]
  refine wpAny_bind (wpAny_rule ?_)
  refine wpAny_bind (wpAny_field hz rfl (x := .ref (n + 3)) rfl ?_)
  refine wpAny_bind (wpAny_setField_rec hz (by simp) fun g1 z1 s1 => ?_)
  replace z1 : IsZip g1 (n + 4) (n + 2) (n + 3) .ellipsis := z1
  refine wpAny_bind ?_
  simp only [List.zipIdx_cons, List.zipIdx_nil, List.forIn_cons, List.forIn_nil]
  refine wpAny_bind (wpAny_bind (wpAny_onRaise ?_))
  show wpAny _ _ (Builtin.SmallTypes.nextOf (.ref (n + 0)) >>= _) _ _ _
  refine wpAny_bind (nextT_end hh (tupIter_at h1 fun o e => s1.extBut _ _ (nz 0 4) e) (tup_at p1 fun o e => s1.extBut _ _ d1 e) hx fun g2 e s2 he => ?_)
  obtain ⟨oe, hoe, hce⟩ := he
  have z2 : IsZip g2 (n + 4) (n + 2) (n + 3) .ellipsis := s2 _ _ (nz 4 0) z1
  have hez : e ≠ n + 4 := fun u => by subst u; rw [z2] at hoe; cases hoe; simp at hce
  exact wpAny_setField_rec z2 (by simp) fun g3 _ s3 => hE g3 e (fun c o c4 c0 u => s3.extBut _ _ c4 (s2 _ _ c0 (s1.extBut _ _ c4 u))) ⟨oe, s3.extBut _ _ hez hoe, hce⟩
theorem nextZ_item {Q : Option Value → Shared → Prop} (d1 : t1 ≠ n + 4) (d2 : t2 ≠ n + 4 ∧ t2 ≠ n + 3 ∧ t2 ≠ n + 0) (hz : IsZip s.heap (n + 4) (n + 2) (n + 3) .none) (hTI : IsPair s.heap (n + 2) (.ref (n + 0)) (.ref (n + 1))) (hTO : IsPair s.heap (n + 3) a b)
    (h1 : s.heap.IsTupleIter (n + 0) t1 k) (h2 : s.heap.IsTupleIter (n + 1) t2 k) (p1 : s.heap.IsTuple t1 xs) (p2 : s.heap.IsTuple t2 ys) (hx : xs[k]? = some x) (hy : ys[k]? = some y)
    (hQ : ∀ h', IsZip h' (n + 4) (n + 2) (n + 3) (rawInt s.heap.objs.size) → IsPair h' (n + 3) x y → h'.IsTupleIter (n + 0) t1 (k + 1) → h'.IsTupleIter (n + 1) t2 (k + 1) → IsPair h' s.heap.objs.size x y →
      (∀ c o, c ≠ n + 4 → c ≠ n + 3 → c ≠ n + 0 → c ≠ n + 1 → s.heap.get? c = some o → h'.get? c = some o) → Q (some (.ref s.heap.objs.size)) { s with heap := h' }) :
    wpAny (model prog w) A (pyNext (.ref (n + 4))) Q E s := by
  have hT : s.TypeIs (.ref (n + 4)) "zip" := ⟨_, hz, rfl⟩
  unfold pyNext
  exact wpAny_bind (wpAny_attempt (wpAny_callSpecial?_slot (name := Str.ofString "__next__") hT F.slot_zip_next
    (wpAny_call_entry F.slot_zip_next hT F.entry_zip_next (zipT_item d1 d2 hz hTI hTO h1 h2 p1 p2 hx hy fun h' a1 a2 a3 a4 a5 a6 => wpAny_pure (hQ h' a1 a2 a3 a4 a5 a6)) (F.args_zip_next_1 _))))
theorem nextZ_end {Q : Option Value → Shared → Prop} (hh : A.handled = none) (d1 : t1 ≠ n + 4) (hz : IsZip s.heap (n + 4) (n + 2) (n + 3) .none) (hTI : IsPair s.heap (n + 2) (.ref (n + 0)) (.ref (n + 1)))
    (h1 : s.heap.IsTupleIter (n + 0) t1 k) (p1 : s.heap.IsTuple t1 xs) (hx : xs[k]? = none)
    (hQ : ∀ h', (∀ c o, c ≠ n + 4 → c ≠ n + 0 → s.heap.get? c = some o → h'.get? c = some o) → Q none { s with heap := h' }) : wpAny (model prog w) A (pyNext (.ref (n + 4))) Q E s := by
  have hT : s.TypeIs (.ref (n + 4)) "zip" := ⟨_, hz, rfl⟩
  unfold pyNext
  refine wpAny_bind (wpAny_attempt (wpAny_callSpecial?_slot (name := Str.ofString "__next__") hT F.slot_zip_next
    (wpAny_call_entry F.slot_zip_next hT F.entry_zip_next (zipT_end hh d1 hz hTI h1 p1 hx fun h' e hk he => ?_) (F.args_zip_next_1 _))))
  obtain ⟨o, ho, hc⟩ := he
  refine wpAny_bind (wpAny_isInstance (T := "StopIteration") (b := true) ⟨o, ho, hc⟩ isSubtype_stop ?_)
  exact wpAny_pure (hQ _ hk)
end
def zA (h : Heap) (t1 : Addr) : Heap := h.push { cls := .type "tuple_iterator", data := .fields #[.ref t1, .int 0 0] }
def zB (h : Heap) (t1 t2 : Addr) : Heap := (zA h t1).push { cls := .type "tuple_iterator", data := .fields #[.ref t2, .int 0 0] }
def zC (h : Heap) (t1 t2 : Addr) : Heap := ((zB h t1 t2).push { cls := .type "tuple", data := .seq #[.ref h.objs.size, .ref (zA h t1).objs.size] }).push { cls := .type "tuple", data := .seq #[.none, .none] }
theorem zipT_new (t1 t2 : Addr) (xs ys : Array Value) :
    Meets (Builtin.«zip.__new__» ⟨[.type "zip", .ref t1, .ref t2], []⟩) (fun _ R s => s.heap.IsTuple t1 xs ∧ s.heap.IsTuple t2 ys ∧
      R (.ok (.ret (.ref (zC s.heap t1 t2).objs.size))) { s with heap := (zC s.heap t1 t2).push { cls := .type "zip", data := .fields #[.none, .bool false, .bool false, .ref (zB s.heap t1 t2).objs.size, .ref ((zB s.heap t1 t2).push { cls := .type "tuple", data := .seq #[.ref s.heap.objs.size, .ref (zA s.heap t1).objs.size] }).objs.size] } }) :=
  .of_wp fun prog w A R s h => by
    obtain ⟨hp, g, d, tk, os⟩ := s; obtain ⟨hl1, hl2, h⟩ := h
    have hsub := sub_zip
    have hL1 : Heap.IsTuple (Shared.heap ⟨hp, g, d, tk, os⟩) t1 xs := hl1
    have hL2 : Heap.IsTuple (Shared.heap ⟨hp.push { cls := .type "tuple_iterator", data := .fields #[.ref t1, .int 0 0] }, g, d, tk, os⟩) t2 ys := tup_at hl2 fun o e => Heap.get?_push_of_some _ e
    wp_walk using wpAny_pyIter_tuple hL1, wpAny_pyIter_tuple hL2
    exact ⟨_, rfl, h⟩
theorem call_zipT {prog : Program} {w : World} {A : Around} {E : Value → Shared → Prop} {s : Shared} {t1 t2 : Addr} {xs ys : Array Value} {Q : Value → Shared → Prop} (hl1 : s.heap.IsTuple t1 xs) (hl2 : s.heap.IsTuple t2 ys)
    (h : ∀ h', IsZip h' (s.heap.objs.size + 4) (s.heap.objs.size + 2) (s.heap.objs.size + 3) .none → IsPair h' (s.heap.objs.size + 2) (.ref (s.heap.objs.size + 0)) (.ref (s.heap.objs.size + 1)) →
      IsPair h' (s.heap.objs.size + 3) .none .none → h'.IsTupleIter (s.heap.objs.size + 0) t1 0 → h'.IsTupleIter (s.heap.objs.size + 1) t2 0 →
      (∀ c o, s.heap.get? c = some o → h'.get? c = some o) → Q (.ref (s.heap.objs.size + 4)) { s with heap := h' }) :
    wpAny (model prog w) A (call (.type "zip") [.ref t1, .ref t2]) Q E s := by
  refine callType_new F.called_zip (by decide) (F.typeCall_zip_2 _ _) (F.newCall_zip_2 _ _) (fun obj => F.args_object_init_3 obj _ _) F.entry_zip_new (zipT_new t1 t2 xs ys) ⟨hl1, hl2, ?_⟩
  have a1 : (zA s.heap t1).objs.size = s.heap.objs.size + 1 := Heap.size_push ..
  have a2 : (zB s.heap t1 t2).objs.size = s.heap.objs.size + 2 := by unfold zB; rw [Heap.size_push, a1]
  have a3 : ((zB s.heap t1 t2).push { cls := .type "tuple", data := .seq #[.ref s.heap.objs.size, .ref (zA s.heap t1).objs.size] }).objs.size = s.heap.objs.size + 3 := by rw [Heap.size_push, a2]
  have a4 : (zC s.heap t1 t2).objs.size = s.heap.objs.size + 4 := by unfold zC; rw [Heap.size_push, a3]
  show _ ∧ _
  rw [a3, a2, a4]
  have k4 : ∀ c o, (zC s.heap t1 t2).get? c = some o → ((zC s.heap t1 t2).push { cls := .type "zip", data := .fields #[.none, .bool false, .bool false, .ref (s.heap.objs.size + 2), .ref (s.heap.objs.size + 3)] }).get? c = some o := fun c o e => Heap.get?_push_of_some _ e
  have k2 : ∀ c o, (zB s.heap t1 t2).get? c = some o → (zC s.heap t1 t2).get? c = some o := fun c o e => Heap.get?_push_of_some _ (Heap.get?_push_of_some _ e)
  have k1 : ∀ c o, (zA s.heap t1).get? c = some o → (zB s.heap t1 t2).get? c = some o := fun c o e => Heap.get?_push_of_some _ e
  have g1 : (zA s.heap t1).get? s.heap.objs.size = some { cls := .type "tuple_iterator", data := .fields #[.ref t1, .int 0 0] } := Heap.get?_push_size _ rfl
  have g2 : (zB s.heap t1 t2).get? (zA s.heap t1).objs.size = some { cls := .type "tuple_iterator", data := .fields #[.ref t2, .int 0 0] } := Heap.get?_push_size _ rfl
  have g3 : (zC s.heap t1 t2).get? (zB s.heap t1 t2).objs.size = some { cls := .type "tuple", data := .seq #[.ref s.heap.objs.size, .ref (zA s.heap t1).objs.size] } := Heap.get?_push_of_some _ (Heap.get?_push_size _ rfl)
  have g4 : (zC s.heap t1 t2).get? ((zB s.heap t1 t2).push { cls := .type "tuple", data := .seq #[.ref s.heap.objs.size, .ref (zA s.heap t1).objs.size] }).objs.size = some { cls := .type "tuple", data := .seq #[.none, .none] } := Heap.get?_push_size _ rfl
  have g5 : ((zC s.heap t1 t2).push { cls := .type "zip", data := .fields #[.none, .bool false, .bool false, .ref (s.heap.objs.size + 2), .ref (s.heap.objs.size + 3)] }).get? (zC s.heap t1 t2).objs.size = some { cls := .type "zip", data := .fields #[.none, .bool false, .bool false, .ref (s.heap.objs.size + 2), .ref (s.heap.objs.size + 3)] } := Heap.get?_push_size _ rfl
  rw [a4] at g5
  rw [a3] at g4
  rw [a2, a1] at g3
  rw [a1] at g2
  exact ⟨⟨_, g5, rfl⟩, h _ g5 (k4 _ _ g3) (k4 _ _ g4) ⟨_, k4 _ _ (k2 _ _ (k1 _ _ g1)), rfl, rfl⟩ ⟨_, k4 _ _ (k2 _ _ g2), rfl, rfl⟩ fun c o e => k4 _ _ (k2 _ _ (k1 _ _ (Heap.get?_push_of_some _ e)))⟩
end Tn
namespace L2
open PySem PySem.Spec PyProof.Rows
def Itz (a b : Addr) : It :=
  ⟨fun i H => ∃ xs ys x y, H a = some (.tup xs) ∧ H b = some (.tup ys) ∧ xs[i]? = some x ∧ ys[i]? = some y,
   fun i H v H' => ∃ p x y, H p = none ∧ v = .ref p ∧ (∀ xs, H a = some (.tup xs) → xs[i]? = some x) ∧ (∀ ys, H b = some (.tup ys) → ys[i]? = some y) ∧ H' = upd H p (.tup [x, y]),
   fun i H => ∃ xs ys, H a = some (.tup xs) ∧ H b = some (.tup ys) ∧ xs.length = i⟩
section
variable {X : Cx}
theorem Inv.turned2 {h' : Heap} {pins : List (Addr × Obj)} {σ : St} {H : Hp} {s : Shared} {t' : Nat} {i j : Addr} (I : Inv X pins σ H s) (k : ∀ b o, b ≠ i → b ≠ j → s.heap.get? b = some o → h'.get? b = some o) (fi : FpOk X pins H i) (fj : FpOk X pins H j) : Inv X pins σ H { s with heap := h', toks := t' } := by
  have nit : ∀ b u, H b = some u → b ≠ i ∧ b ≠ j := fun b u e => ⟨(fun z => by rw [z, fi.1] at e; cases e), (fun z => by rw [z, fj.1] at e; cases e)⟩
  have inch : ∀ c, c ∉ [i, j] → c ≠ i ∧ c ≠ j := fun c hc => ⟨fun z => hc (by simp [z]), fun z => hc (by simp [z])⟩
  refine I.step (g' := s.gens) (d' := s.drawn) (ch := [i, j]) (fun b hb => ?_) (fun b o _ _ hc e _ => k b o (inch b hc).1 (inch b hc).2 e) (fun b o _ _ hc e _ => ⟨o.slots, k b o (inch b hc).1 (inch b hc).2 e⟩) (fun _ _ _ _ n => n)
    (fun b o hc e => ⟨o, k b o (inch b hc).1 (inch b hc).2 e⟩) (fun _ _ e => e) (fun _ _ _ e => e) (fun b ps e => ⟨#[], by rw [e]; simp⟩) (fun m hm => ?_) (fun b u e => ?_) I.bare
  · rcases List.mem_cons.mp hb with z | z
    · rw [z]; exact ⟨fi.2.2.2.1, fi.2.1, fi.2.2.2.2.1, fi.2.2.2.2.2⟩
    · rw [List.mem_singleton.mp z]; exact ⟨fj.2.2.2.1, fj.2.1, fj.2.2.2.2.1, fj.2.2.2.2.2⟩
  · obtain ⟨o, es, ep, ho, r⟩ := hm
    exact ⟨o, es, ep, k _ o (Ne.symm fi.2.1) (Ne.symm fj.2.1) ho, r⟩
  · refine (I.hok b u e).stay (fun c v hc q => ?_) (fun _ q => q) fun _ _ q => q
    have hcc : c ≠ i ∧ c ≠ j := by
      rcases hc with z | z
      · rw [z]; exact nit b u e
      · exact nit c _ z
    exact k c v hcc.1 hcc.2 q
theorem turn_zipT {P : Program} {w : World} {K : PySem.W.Frag} {elts : List Expr} {k : Nat} {tp : Pos} (a b : Addr) (n : Nat) :
    Turn P w K (.Tuple elts k tp) (Itz a b) [n + 4, n + 2, n + 3, n + 0, n + 1] (n + 4) (fun i h => IsZip h (n + 4) (n + 2) (n + 3) .none ∧ IsPair h (n + 2) (.ref (n + 0)) (.ref (n + 1)) ∧ (∃ u v, IsPair h (n + 3) u v) ∧ h.IsTupleIter (n + 0) a i ∧ h.IsTupleIter (n + 1) b i) where
  mem := List.mem_cons_self
  obj := fun i h st c hc => by
    obtain ⟨hz, hTI, ⟨u, v, hTO⟩, ⟨o1, q1, _, d1⟩, ⟨o2, q2, _, d2⟩⟩ := st
    rcases List.mem_cons.mp hc with z | hc
    · subst z
      exact ⟨_, hz, fun v z => by
        have z' : Data.fields _ = Data.cell v := z
        cases z'⟩
    rcases List.mem_cons.mp hc with z | hc
    · subst z
      exact ⟨_, hTI, fun v z => by
        have z' : Data.seq _ _ = Data.cell v := z
        cases z'⟩
    rcases List.mem_cons.mp hc with z | hc
    · subst z
      exact ⟨_, hTO, fun v z => by
        have z' : Data.seq _ _ = Data.cell v := z
        cases z'⟩
    rcases List.mem_cons.mp hc with z | hc
    · subst z
      exact ⟨o1, q1, fun v z => by rw [d1] at z; cases z⟩
    · rw [List.mem_singleton.mp hc]
      exact ⟨o2, q2, fun v z => by rw [d2] at z; cases z⟩
  keep := fun i h h' st kp => by
    obtain ⟨hz, hTI, ⟨u, v, hTO⟩, h1, h2⟩ := st
    exact ⟨kp _ (by simp) _ hz, kp _ (by simp) _ hTI, ⟨u, v, kp _ (by simp) _ hTO⟩, Tn.tupIter_at h1 fun o q => kp _ (by simp) o q, Tn.tupIter_at h2 fun o q => kp _ (by simp) o q⟩
  item := by
    intro X hP hw hK hc i pins s σ H E I hf st hg
    subst hP hw hK
    obtain ⟨xs, ys, x, y, ha, hb, hx, hy⟩ := hg
    obtain ⟨its, rv, p1, _⟩ := I.tuple (SqT.of (K := X.K) ha)
    obtain ⟨jts, rw', p2, _⟩ := I.tuple (SqT.of (K := X.K) hb)
    obtain ⟨u, hu, ru⟩ := rv.get hx
    obtain ⟨v, hv, rv'⟩ := rw'.get hy
    obtain ⟨hz, hTI, ⟨u0, v0, hTO⟩, h1, h2⟩ := st
    have f4 := hf (n + 4) (by simp)
    have f3 := hf (n + 3) (by simp)
    have f2 := hf (n + 2) (by simp)
    have f0 := hf (n + 0) (by simp)
    have f1 := hf (n + 1) (by simp)
    have ne : ∀ c o, H c = some o → c ≠ n + 4 ∧ c ≠ n + 3 ∧ c ≠ n + 0 ∧ c ≠ n + 1 := fun c o z =>
      ⟨(fun q => by rw [q, f4.1] at z; cases z), (fun q => by rw [q, f3.1] at z; cases z), (fun q => by rw [q, f0.1] at z; cases z), (fun q => by rw [q, f1.1] at z; cases z)⟩
    have hnew : H s.heap.objs.size = none := I.hok.fresh (Nat.le_refl _)
    have ea := ne a _ ha
    have eb := ne b _ hb
    refine Tn.nextZ_item ea.1 ⟨eb.1, eb.2.1, eb.2.2.1⟩ hz hTI hTO h1 h2 (show s.heap.IsTuple a its.toArray from p1) (show s.heap.IsTuple b jts.toArray from p2) (x := u) (y := v) (by simpa using hu) (by simpa using hv) fun h' z' o' i1 i2 t' kp => ?_
    refine ⟨_, rfl, wpAny_letOwnedTupleGo_zip (s := { s with heap := h' }) z' fun g zg sg => ?_⟩
    have zlt : n + 4 < s.heap.objs.size := Heap.lt_size hz
    have up : ∀ c o, c ≠ n + 4 → c ≠ n + 3 → c ≠ n + 0 → c ≠ n + 1 → s.heap.get? c = some o → g.get? c = some o := fun c o c4 c3 c0 c1 e => sg.extBut _ _ c4 (kp c o c4 c3 c0 c1 e)
    have tg : g.get? s.heap.objs.size = some { cls := .type "tuple", data := .seq #[u, v] } := sg.extBut _ _ (Nat.ne_of_gt zlt) t'
    have inch : ∀ c, c ∉ [n + 4, n + 3, n + 0, n + 1] → c ≠ n + 4 ∧ c ≠ n + 3 ∧ c ≠ n + 0 ∧ c ≠ n + 1 := fun c hc => ⟨fun z => hc (by simp [z]), fun z => hc (by simp [z]), fun z => hc (by simp [z]), fun z => hc (by simp [z])⟩
    have I1 : Inv X pins σ (upd H s.heap.objs.size (.tup [x, y])) { s with heap := g } := by
      refine I.step (g' := s.gens) (d' := s.drawn) (ch := [n + 4, n + 3, n + 0, n + 1]) (fun c hc => ?_) (fun c o _ _ hc q _ => let ⟨c4, c3, c0, c1⟩ := inch c hc; up c o c4 c3 c0 c1 q)
        (fun c o _ _ hc q _ => let ⟨c4, c3, c0, c1⟩ := inch c hc; ⟨o.slots, up c o c4 c3 c0 c1 q⟩) (fun c o _ q n' => by rw [upd_ne (Nat.ne_of_lt (Heap.lt_size q))]; exact n')
        (fun c o hc q => let ⟨c4, c3, c0, c1⟩ := inch c hc; ⟨o, up c o c4 c3 c0 c1 q⟩) (fun c us q => by rw [upd_ne (ne_of_none q hnew)]; exact q) (fun c o us q => by rw [upd_ne (ne_of_none q hnew)]; exact q)
        (fun c ps q => ⟨#[], by rw [upd_ne (ne_of_none q hnew), q]; simp⟩) (fun m hm => ?_) (fun c oc q => ?_) I.bare
      · rcases List.mem_cons.mp hc with z | hc
        · subst z; exact ⟨f4.2.2.2.1, f4.2.1, f4.2.2.2.2.1, f4.2.2.2.2.2⟩
        rcases List.mem_cons.mp hc with z | hc
        · subst z; exact ⟨f3.2.2.2.1, f3.2.1, f3.2.2.2.2.1, f3.2.2.2.2.2⟩
        rcases List.mem_cons.mp hc with z | hc
        · subst z; exact ⟨f0.2.2.2.1, f0.2.1, f0.2.2.2.2.1, f0.2.2.2.2.2⟩
        · rw [List.mem_singleton.mp hc]; exact ⟨f1.2.2.2.1, f1.2.1, f1.2.2.2.2.1, f1.2.2.2.2.2⟩
      · obtain ⟨o, es, ep, ho, r⟩ := hm
        exact ⟨o, es, ep, up _ o (Ne.symm f4.2.1) (Ne.symm f3.2.1) (Ne.symm f0.2.1) (Ne.symm f1.2.1) ho, r⟩
      · by_cases hcs : c = s.heap.objs.size
        · subst hcs
          rw [upd_same] at q; cases q
          exact ⟨(by show 2 ≤ sizeLine; decide), [u, v], .cons ru (.cons rv' .nil), ⟨_, tg, rfl, ⟨_, rfl⟩, rfl⟩⟩
        · rw [upd_ne hcs] at q
          refine (I.hok c oc q).stay (fun c' v' hc' q' => ?_) (fun c' z => by rw [upd_ne (ne_of_none z hnew)]; exact z) fun c' us z => by rw [upd_ne (ne_of_none z hnew)]; exact z
          obtain ⟨c4, c3, c0, c1⟩ : c' ≠ n + 4 ∧ c' ≠ n + 3 ∧ c' ≠ n + 0 ∧ c' ≠ n + 1 := by
            rcases hc' with z | z
            · subst z; exact ne _ _ q
            · exact ne _ _ z
          exact up c' v' c4 c3 c0 c1 q'
    have iter : ∀ {it t : Addr} {j : Nat}, it ≠ n + 4 → h'.IsTupleIter it t j → g.IsTupleIter it t j := fun hne p => Tn.tupIter_at p fun o q => sg.extBut _ _ hne q
    refine ⟨.ref s.heap.objs.size, _, I1, rfl, ⟨s.heap.objs.size, x, y, hnew, rfl, fun us e => by rw [ha] at e; cases e; exact hx, fun us e => by rw [hb] at e; cases e; exact hy, rfl⟩,
      ⟨zg, up _ _ (Tn.nz 2 4) (Tn.nz 2 3) (Tn.nz 2 0) (Tn.nz 2 1) hTI, ⟨u, v, sg.extBut _ _ (Tn.nz 3 4) o'⟩, iter (Tn.nz 0 4) i1, iter (Tn.nz 1 4) i2⟩, fun c hc => ?_⟩
    have hcn : c ≠ s.heap.objs.size := by
      rcases List.mem_cons.mp hc with z | hc
      · subst z; exact Nat.ne_of_lt zlt
      rcases List.mem_cons.mp hc with z | hc
      · subst z; exact Nat.ne_of_lt (Heap.lt_size hTI)
      rcases List.mem_cons.mp hc with z | hc
      · subst z; exact Nat.ne_of_lt (Heap.lt_size hTO)
      rcases List.mem_cons.mp hc with z | hc
      · subst z; exact Nat.ne_of_lt (let ⟨_, e, _⟩ := h1; Heap.lt_size e)
      · rw [List.mem_singleton.mp hc]; exact Nat.ne_of_lt (let ⟨_, e, _⟩ := h2; Heap.lt_size e)
    rw [upd_ne hcn]
    exact (hf c hc).1
  done := by
    intro X hP hw hK hc i pins s σ H E I hf st hg
    subst hP hw hK
    obtain ⟨xs, ys, ha, hb, hl⟩ := hg
    obtain ⟨its, rv, p1, _⟩ := I.tuple (SqT.of (K := X.K) ha)
    obtain ⟨hz, hTI, _, h1, h2⟩ := st
    have hlen := rv.length
    have f4 := hf (n + 4) (by simp)
    have f0 := hf (n + 0) (by simp)
    have ea4 : a ≠ n + 4 := fun q => by rw [q, f4.1] at ha; cases ha
    refine Tn.nextZ_end (I.ok.hd hc) ea4 hz hTI h1 (show s.heap.IsTuple a its.toArray from p1) (by simp; omega) fun h' kp => ⟨rfl, ?_⟩
    refine I.turned2 (t' := s.toks) (fun c o c4 c0 q => kp c o c4 c0 q) f4 f0
  self := fun _ i s Q E st h => wpAny_pyIter_zip st.1 h
def iZip (ta : TA) : TI := fun σ H R => ta σ H fun vs H1 => ∃ a b xs ys, vs = [.ref a, .ref b] ∧ H1 a = some (.tup xs) ∧ H1 b = some (.tup ys) ∧ R (Itz a b) H1
theorem pi_zipTT {e e' : Expr} {ta : TA} {p pos tp : Pos} {elts : List Expr} {k : Nat} (hg : Gl X "zip") (hm : X.mg "zip" = none) (ha : PA X [e, e'] ta) (hs : starEach [e, e'] X.env = (false, eval e X.env) :: starEach [e'] X.env := by rfl) (hpl : (backTo pos (starEach [e'] X.env)).any (·.1) = false := by rfl) :
    PI X (.Tuple elts k tp) (.Call (.Name "zip" p) [e, e'] [] pos) (iZip ta) := by
  intro pins s σ H R I h
  refine Call_ (ld_blt I hg hm (by decide +kernel : bootBuiltins "zip" = some (.type "zip")) (PyProof.Rows.callWith_type1 (thn (ha pos pins s σ H _ I h) fun us s1 ⟨vs, H1, I1, r1, q1⟩ => ?_) hs hpl))
  obtain ⟨a, b, xs, ys, rfl, h1, h2, q⟩ := q1
  obtain ⟨u, u', rfl, rx, ry⟩ := r1.two
  cases rx
  cases ry
  obtain ⟨its, rv, p1, _⟩ := I1.tuple (SqT.of (K := X.K) h1)
  obtain ⟨jts, rw', p2, _⟩ := I1.tuple (SqT.of (K := X.K) h2)
  refine Tn.call_zipT (show s1.heap.IsTuple a its.toArray from p1) (show s1.heap.IsTuple b jts.toArray from p2) fun g hz hTI hTO i1 i2 kp => ?_
  refine wpAny_pyIter_zip (s := { s1 with heap := g }) hz ?_
  have I2 : Inv X pins σ H1 { s1 with heap := g } := I1.kept (t' := s1.toks) kp
  have fr : ∀ b, s1.heap.objs.size ≤ b → FpOk X pins H1 b := fun b hb => I1.fpOk hb (I1.hok.fresh hb)
  refine ⟨_, [s1.heap.objs.size + 4, s1.heap.objs.size + 2, s1.heap.objs.size + 3, s1.heap.objs.size + 0, s1.heap.objs.size + 1], _, Itz a b, H1, rfl, I2, turn_zipT a b s1.heap.objs.size, ⟨hz, hTI, ⟨_, _, hTO⟩, i1, i2⟩, fun c hc => fr c ?_, q⟩
  rcases List.mem_cons.mp hc with z | hc
  · rw [z]; exact Nat.le_add_right _ _
  rcases List.mem_cons.mp hc with z | hc
  · rw [z]; exact Nat.le_add_right _ _
  rcases List.mem_cons.mp hc with z | hc
  · rw [z]; exact Nat.le_add_right _ _
  rcases List.mem_cons.mp hc with z | hc
  · rw [z]; exact Nat.le_add_right _ _
  · rw [List.mem_singleton.mp hc]; exact Nat.le_add_right _ _
end
end L2
namespace L2
open PySem
def rLstOf (K : PySem.W.Frag) : List V → Hp → VK → Prop := fun xs H Q => ∃ p ys, xs = [.ref p] ∧ (SqL K H p ys ∨ SqT K H p ys) ∧ ∀ l, H l = none → Q (.ref l) (upd H l (.lst ys))
end L2
namespace Tn
open PySem L2
def allO {α : Type} : List (Option α) → Option (List α)
  | [] => some []
  | none :: _ => none
  | some a :: r => (allO r).map (a :: ·)
theorem allO_some {α : Type} : ∀ (l : List α), allO (l.map some) = some l
  | [] => rfl
  | a :: l => by
    show (allO (l.map some)).map (a :: ·) = _
    rw [allO_some l]
    rfl
theorem allO_none {α : Type} : ∀ {l : List (Option α)} {i : Nat}, l[i]? = some none → allO l = none
  | [], _, h => by simp at h
  | none :: _, _, _ => rfl
  | some a :: r, 0, h => by simp at h
  | some a :: r, i + 1, h => by
    show (allO r).map (a :: ·) = none
    rw [allO_none (l := r) (i := i) (by simpa using h)]
    rfl
theorem allO_snoc {α : Type} (a : α) : ∀ {l : List (Option α)} {ns : List α}, allO l = some ns → allO (l ++ [some a]) = some (ns ++ [a])
  | [], ns, h => by
    have h : some [] = some ns := h
    cases h
    rfl
  | none :: _, ns, h => by cases h
  | some b :: r, ns, h => by
    have h : (allO r).map (b :: ·) = some ns := h
    cases hr : allO r with
    | none => rw [hr] at h; cases h
    | some ms =>
      rw [hr] at h
      cases h
      show (allO (r ++ [some a])).map (b :: ·) = _
      rw [allO_snoc a hr]
      rfl
def firstsF (ps : List Nat) : List Nat := 0 :: ps
def behindsF (n : Nat) (ps : List Nat) : List Nat := ps ++ [n]
def stretchF (ord : List Int) (ps : List Nat) : List (List Int) := ((firstsF ps).zip (behindsF ord.length ps)).map fun ab => (ord.drop ab.1).take (ab.2 - ab.1)
def nestF : Nat → List Int → Option Nest
  | 0, _ => none
  | d + 1, ord => if ord.length = 1 then some .word else if (cutF ord).2 = [] then none else
    (allO ((stretchF ord (cutF ord).2).map fun b => nestF d (leftF ord b))).map fun ns => if (cutF ord).1 = kS false then .knot false ns.reverse else .knot true ns
def Asc (n : Nat) (ps : List Nat) : Prop := ps.Pairwise (· < ·) ∧ ∀ p ∈ ps, 1 ≤ p ∧ p < n
theorem places_asc (ord : List Int) (q : Nat → Bool) (k : Nat) : (places ord q k).Pairwise (· < ·) ∧ ∀ p ∈ places ord q k, 1 ≤ p ∧ p ≤ k ∧ q p = true := by
  unfold places
  refine ⟨List.Pairwise.filter _ ?_, fun p hp => ?_⟩
  · rw [List.pairwise_map]
    exact (List.pairwise_lt_range (n := k)).imp fun h => by omega
  · obtain ⟨h1, h2⟩ := List.mem_filter.mp hp
    obtain ⟨i, hi, rfl⟩ := List.mem_map.mp h1
    have := List.mem_range.mp hi
    exact ⟨by omega, by omega, h2⟩
theorem cut_asc (ord : List Int) : Asc ord.length (cutF ord).2 := by
  have h1 := places_asc ord (upB ord) (ord.length - 1)
  have h2 := places_asc ord (dnB ord) (ord.length - 1)
  unfold cutF
  split
  · split
    · exact ⟨.nil, fun _ h => nomatch h⟩
    · exact ⟨h2.1, fun p hp => by have := h2.2 p hp; exact ⟨this.1, by omega⟩⟩
  · exact ⟨h1.1, fun p hp => by have := h1.2 p hp; exact ⟨this.1, by omega⟩⟩
theorem firsts_len (n : Nat) (ps : List Nat) : (firstsF ps).length = (behindsF n ps).length := by simp [firstsF, behindsF]
theorem asc_at {n : Nat} {ps : List Nat} (h : Asc n ps) (hn : 1 ≤ n) {i a c : Nat} (ha : (firstsF ps)[i]? = some a) (hc : (behindsF n ps)[i]? = some c) : a < c ∧ c ≤ n := by
  unfold firstsF at ha
  unfold behindsF at hc
  have hc1 : (i < ps.length ∧ ps[i]? = some c) ∨ (i = ps.length ∧ c = n) := by
    by_cases hi : i < ps.length
    · rw [List.getElem?_append_left hi] at hc
      exact .inl ⟨hi, hc⟩
    · rw [List.getElem?_append_right (by omega)] at hc
      by_cases he : i = ps.length
      · subst he
        have : n = c := by simpa using hc
        exact .inr ⟨rfl, this.symm⟩
      · rw [List.getElem?_eq_none (by simp; omega)] at hc
        cases hc
  have hcn : c ≤ n := by
    rcases hc1 with ⟨_, h1⟩ | ⟨_, rfl⟩
    · have := h.2 c (List.mem_of_getElem? h1)
      omega
    · exact Nat.le_refl _
  refine ⟨?_, hcn⟩
  cases i with
  | zero =>
    have : 0 = a := by simpa using ha
    subst this
    rcases hc1 with ⟨_, h1⟩ | ⟨_, rfl⟩
    · have := h.2 c (List.mem_of_getElem? h1)
      omega
    · omega
  | succ j =>
    have ha : ps[j]? = some a := by simpa using ha
    rcases hc1 with ⟨hi, h1⟩ | ⟨_, rfl⟩
    · have hj := List.getElem?_eq_some_iff.mp ha
      have hi' := List.getElem?_eq_some_iff.mp h1
      have := List.pairwise_iff_getElem.mp h.1 j (j + 1) (by omega) (by omega) (by omega)
      rw [hj.2, hi'.2] at this
      exact this
    · have := h.2 a (List.mem_of_getElem? ha)
      omega
theorem not_whole {n : Nat} {ps : List Nat} (h : Asc n ps) (hne : ps ≠ []) {i a c : Nat} (ha : (firstsF ps)[i]? = some a) (hc : (behindsF n ps)[i]? = some c) : ¬ (a = 0 ∧ c = n) := by
  rintro ⟨rfl, rfl⟩
  unfold firstsF at ha
  unfold behindsF at hc
  cases i with
  | zero =>
    cases ps with
    | nil => exact hne rfl
    | cons p r =>
      have : p = c := by simpa using hc
      have := h.2 p List.mem_cons_self
      omega
  | succ j =>
    have ha : ps[j]? = some 0 := by simpa using ha
    have := h.2 0 (List.mem_of_getElem? ha)
    omega
theorem stretch_get {ord : List Int} {ps : List Nat} {i : Nat} {b : List Int} (h : (stretchF ord ps)[i]? = some b) : ∃ a c, (firstsF ps)[i]? = some a ∧ (behindsF ord.length ps)[i]? = some c ∧ b = (ord.drop a).take (c - a) := by
  unfold stretchF at h
  rw [List.getElem?_map] at h
  cases hz : ((firstsF ps).zip (behindsF ord.length ps))[i]? with
  | none => rw [hz] at h; cases h
  | some ab =>
    rw [hz] at h
    rw [List.getElem?_zip_eq_some] at hz
    exact ⟨ab.1, ab.2, hz.1, hz.2, (Option.some.inj h).symm⟩
theorem stretch_len (ord : List Int) (ps : List Nat) : (stretchF ord ps).length = ps.length + 1 := by
  unfold stretchF
  rw [List.length_map, List.length_zip, ← firsts_len, Nat.min_self]
  rfl
theorem stretch_ok {ord : List Int} {ps : List Nat} (h : Asc ord.length ps) (h1 : 1 ≤ ord.length) (hne : ps ≠ []) {i : Nat} {b : List Int} (hb : (stretchF ord ps)[i]? = some b) : b ≠ [] ∧ b.Sublist ord ∧ b.length < ord.length := by
  obtain ⟨a, c, ha, hc, rfl⟩ := stretch_get hb
  have h2 := asc_at h h1 ha hc
  have h3 := not_whole h hne ha hc
  have hl : ((ord.drop a).take (c - a)).length = c - a := by
    rw [List.length_take, List.length_drop]
    omega
  refine ⟨fun z => ?_, (List.take_sublist _ _).trans (List.drop_sublist _ _), by omega⟩
  rw [z] at hl
  simp at hl
  omega
theorem rank_lt {ws : List Int} {w : Int} (h : w ∈ ws) : rank ws w < ws.length := by
  unfold rank
  rw [← List.countP_eq_length_filter]
  refine Nat.lt_of_le_of_ne (List.countP_le_length) fun e => ?_
  have := List.countP_eq_length.mp e w h
  simp at this
theorem rank_mono {ws : List Int} {v w : Int} (h : v ∈ ws) (hv : v < w) : rank ws v < rank ws w := by
  unfold rank
  have h1 : (ws.filter fun x => decide (x < v)).Sublist (ws.filter fun x => decide (x < w)) := by
    have : ws.filter (fun x => decide (x < v)) = (ws.filter fun x => decide (x < w)).filter fun x => decide (x < v) := by
      rw [List.filter_filter]
      apply List.filter_congr
      intro x _
      by_cases c : x < v
      · simp [c, show x < w by omega]
      · simp [c]
    rw [this]
    exact List.filter_sublist
  refine Nat.lt_of_le_of_ne h1.length_le fun e => ?_
  have e2 := h1.eq_of_length e
  have : v ∈ ws.filter fun x => decide (x < w) := List.mem_filter.mpr ⟨h, by simpa using hv⟩
  rw [← e2] at this
  simp at this
theorem left_ord {ord ws : List Int} (h : IsOrd ord) (nd : ws.Nodup) (hs : ∀ w ∈ ws, w ∈ ord) : IsOrd (leftF ord ws) ∧ (leftF ord ws).length = ws.length := by
  have hp : (ord.filter fun w => decide (w ∈ ws)).Perm ws := by
    refine (perm_of_sub nd (fun a ha => List.mem_filter.mpr ⟨hs a ha, by simpa using ha⟩) ?_).symm
    refine nd_len (h.nodup.sublist List.filter_sublist) fun a ha => ?_
    simpa using (List.mem_filter.mp ha).2
  have hl : (leftF ord ws).length = ws.length := by
    unfold leftF
    rw [List.length_map, hp.length_eq]
  refine ⟨⟨?_⟩, hl⟩
  rw [hl]
  unfold leftF
  refine (hp.map _).trans ?_
  refine perm_of_sub ?_ (fun a ha => ?_) (by simp [upto])
  · rw [List.Nodup, List.pairwise_map]
    have nd' : ws.Pairwise fun a b => a ∈ ws ∧ b ∈ ws ∧ a ≠ b := by
      have := List.Pairwise.and_mem.mp nd
      exact this.imp fun ⟨x, y, z⟩ => ⟨x, y, z⟩
    refine nd'.imp fun ⟨ha, hb, hne⟩ e => ?_
    rcases Int.lt_or_gt_of_ne hne with z | z
    · have := rank_mono ha z
      omega
    · have := rank_mono hb z
      omega
  · obtain ⟨w, hw, rfl⟩ := List.mem_map.mp ha
    exact mem_upto.mpr ⟨by omega, by have := rank_lt hw; omega⟩
theorem intV_inj : ∀ {a b : List Int}, a.map V.int = b.map V.int → a = b
  | [], [], _ => rfl
  | [], _ :: _, h => nomatch h
  | _ :: _, [], h => nomatch h
  | x :: a, y :: b, h => by
    rw [List.map_cons, List.map_cons] at h
    injection h with h1 h2
    rw [V.int.inj h1, intV_inj h2]
theorem cutN_mid (xs : List V) {a b : Nat} (h1 : a ≤ b) (h2 : b ≤ xs.length) : cutV xs (some (a : Int)) (some (b : Int)) = (xs.drop a).take (b - a) := by
  unfold cutV
  rw [HT.sIx_nat, HT.sIx_nat, Nat.min_eq_left h2, Nat.min_eq_left (show a ≤ xs.length by omega)]
theorem nestF_bad : ∀ (d : Nat) (ord : List Int), nestF d ord ≠ some .bad
  | 0, _ => fun h => nomatch h
  | d + 1, ord => by
    rw [nestF]
    split
    · exact fun h => nomatch h
    · split
      · exact fun h => nomatch h
      · intro h
        cases hx : allO ((stretchF ord (cutF ord).2).map fun b => nestF d (leftF ord b)) with
        | none => rw [hx] at h; cases h
        | some ns =>
          rw [hx] at h
          have h : some (if (cutF ord).1 = kS false then Nest.knot false ns.reverse else Nest.knot true ns) = some .bad := h
          split at h <;> cases h
theorem cut_kind {ord : List Int} (h : (cutF ord).2 ≠ []) : (cutF ord).1 = kS false ∨ (cutF ord).1 = kS true := by
  unfold cutF at h ⊢
  split
  · rename_i c
    rw [if_pos c] at h
    split
    · rename_i c2
      rw [if_pos c2] at h
      exact absurd rfl h
    · exact .inl rfl
  · exact .inr rfl
theorem nests_rev {K : PySem.W.Frag} {H : Hp} : ∀ {ns : List Nest} {vs : List V}, NestsAt K H ns vs → NestsAt K H ns.reverse vs.reverse
  | [], _, h => by have h : _ = [] := h; rw [h]; rfl
  | n :: r, _, ⟨v, vr, e, h1, h2⟩ => by
    rw [e, List.reverse_cons, List.reverse_cons]
    exact NestsAt.app (nests_rev h2) (NestsAt.one h1)
def barS : Str := "barred"
def TellsN (K : PySem.W.Frag) (H : Hp) (o : Option Nest) (v : V) : Prop := match o with
  | some n => NestAt K H n v
  | none => v = .str barS
def spStretch (K : PySem.W.Frag) : Sp := fun vs H Q _ => ∃ (o p : Addr) (ord : List Int) (ps : List Nat), vs = [.ref o, .ref p] ∧ SqT K H o (ord.map V.int) ∧ H p = some (.tup (natV ps)) ∧ Asc ord.length ps ∧ ps ≠ [] ∧ 1 ≤ ord.length ∧ ord.length ≤ 900 ∧
  ∀ (q : Addr) (qs : List Addr) (H' : Hp), H q = none → (∀ x ∈ qs, H x = none) → H' q = some (.lst (qs.map V.ref)) → LstsAt H' qs (stretchF ord ps) → Same H H' → Q (.ref q) H'
def spNestOf (K : PySem.W.Frag) (d : Nat) : Sp := fun vs H Q _ => ∃ (o : Addr) (ord : List Int), vs = [.ref o] ∧ SqT K H o (ord.map V.int) ∧ IsOrd ord ∧ 1 ≤ ord.length ∧ ord.length ≤ 60 ∧ ord.length ≤ d ∧ ∀ (v : V) (H' : Hp), TellsN K H' (nestF d ord) v → Same H H' → Q v H'
end Tn
namespace Tn
open PySem L2
mutual
def fit : Nest → Bool
  | .word => true
  | .knot _ ps => decide (2 ≤ ps.length) && fitL ps
  | .bad => false
def fitL : List Nest → Bool
  | [] => true
  | n :: r => fit n && fitL r
end
mutual
theorem NestAt.fit {K : PySem.W.Frag} {H : Hp} : ∀ {n : Nest} {o : Option Bool} {v : V}, NestAt K H n v → valid o n = true → Tn.fit n = true
  | .word, _, _, _, _ => rfl
  | .knot k ps, _, _, ⟨a, b, vs, _, _, _, h2, _, h5⟩, hv => by
    have hvl : validL k ps = true := by simp only [valid, Bool.and_eq_true] at hv; exact hv.2
    have hl := h5.len
    rw [Tn.fit, NestsAt.fit h5 hvl, decide_eq_true (by omega)]
    rfl
  | .bad, _, _, _, hv => by simp [valid] at hv
theorem NestsAt.fit {K : PySem.W.Frag} {H : Hp} : ∀ {ps : List Nest} {k : Bool} {vs : List V}, NestsAt K H ps vs → validL k ps = true → fitL ps = true
  | [], _, _, _, _ => rfl
  | n :: r, k, _, ⟨v, vr, _, h1, h2⟩, hv => by
    simp only [validL, Bool.and_eq_true] at hv
    rw [fitL, NestAt.fit h1 hv.1, NestsAt.fit h2 hv.2]
    rfl
end
mutual
theorem row_shift : ∀ (n : Nest) (f g : Int), rowN n (f + g) = (rowN n f).map fun w => w + g
  | .word, f, g => by rw [rowN, rowN]; rfl
  | .knot k ps, f, g => by
    rw [rowN, rowN, rows_shift ps f g]
    cases k
    · show (List.map _ _).reverse.flatten = List.map _ ((rowsN ps f).reverse).flatten
      rw [← List.map_reverse, List.map_flatten]
    · show (List.map _ _).flatten = List.map _ (rowsN ps f).flatten
      rw [List.map_flatten]
  | .bad, f, g => by rw [rowN, rowN]; rfl
theorem rows_shift : ∀ (ps : List Nest) (f g : Int), rowsN ps (f + g) = (rowsN ps f).map fun l => l.map fun w => w + g
  | [], f, g => by rw [rowsN, rowsN]; rfl
  | n :: r, f, g => by
    rw [rowsN, rowsN, row_shift n f g, List.map_cons, List.length_map, show f + g + ((rowN n f).length : Int) = f + ((rowN n f).length : Int) + g by omega, rows_shift r _ g]
end
theorem row_mem {n : Nest} {o : Option Bool} {f w : Int} (hv : valid o n = true) (h : w ∈ rowN n f) : f ≤ w ∧ w < f + (words n : Int) := by
  have := (row_perm n o f hv).mem_iff.mp h
  unfold fromTo at this
  obtain ⟨z, hz, rfl⟩ := List.mem_map.mp this
  have := mem_upto.mp hz
  omega
theorem fitL_mem : ∀ {ps : List Nest} {n : Nest}, fitL ps = true → n ∈ ps → fit n = true
  | _ :: r, n, h, hm => by
    rw [fitL, Bool.and_eq_true] at h
    rcases List.mem_cons.mp hm with rfl | hm
    · exact h.1
    · exact fitL_mem h.2 hm
theorem validL_mem : ∀ {ps : List Nest} {k : Bool} {n : Nest}, validL k ps = true → n ∈ ps → valid (some k) n = true
  | _ :: r, k, n, h, hm => by
    simp only [validL, Bool.and_eq_true] at h
    rcases List.mem_cons.mp hm with rfl | hm
    · exact h.1
    · exact validL_mem h.2 hm
theorem words_fit : ∀ {n : Nest}, fit n = true → 1 ≤ words n
  | .word, _ => Nat.le_refl _
  | .knot _ ps, h => by
    rw [fit, Bool.and_eq_true, decide_eq_true_eq] at h
    match ps, h with
    | n :: r, h =>
      have h2 := h.2
      rw [fitL, Bool.and_eq_true] at h2
      have := words_fit h2.1
      rw [words, wordsL]
      omega
  | .bad, h => by simp [fit] at h
theorem wordsL_fit : ∀ {ps : List Nest}, fitL ps = true → ps.length ≤ wordsL ps
  | [], _ => Nat.zero_le _
  | n :: r, h => by
    rw [fitL, Bool.and_eq_true] at h
    have := words_fit h.1
    have := wordsL_fit h.2
    rw [wordsL, List.length_cons]
    omega
theorem wordsL_part : ∀ {ps : List Nest} {n : Nest}, fitL ps = true → 2 ≤ ps.length → n ∈ ps → words n + 1 ≤ wordsL ps
  | m :: r, n, h, h2, hm => by
    rw [fitL, Bool.and_eq_true] at h
    have h3 := words_fit h.1
    have h4 := wordsL_fit h.2
    rw [List.length_cons] at h2
    rw [wordsL]
    rcases List.mem_cons.mp hm with rfl | hm
    · omega
    · obtain ⟨i, hi⟩ := List.getElem?_of_mem hm
      have := wordsL_at hi
      omega
def Rk (k : Bool) (a b : Int) : Prop := if k then a < b else b < a
theorem Rk_not {k : Bool} {a b : Int} (h : Rk k a b) : ¬ Rk (!k) a b := by
  unfold Rk at *
  cases k
  · simp at *; omega
  · simp at *; omega
def Apart (k : Bool) (x y : List Int) : Prop := ∀ a ∈ x, ∀ b ∈ y, Rk k a b
def seenB (k : Bool) (rs : List (List Int)) : List (List Int) := if k then rs else rs.reverse
theorem row_seen (k : Bool) (ps : List Nest) (f : Int) : rowN (.knot k ps) f = (seenB k (rowsN ps f)).flatten := by
  rw [rowN]; rfl
theorem rows_apart : ∀ (ps : List Nest) (k : Bool) (f : Int), validL k ps = true → (rowsN ps f).Pairwise (Apart true) ∧ ∀ x ∈ rowsN ps f, ∀ a ∈ x, f ≤ a
  | [], _, _, _ => by rw [rowsN]; exact ⟨.nil, fun _ h => nomatch h⟩
  | n :: r, k, f, h => by
    simp only [validL, Bool.and_eq_true] at h
    have hl := row_len f h.1
    have ih := rows_apart r k (f + ((rowN n f).length : Int)) h.2
    rw [rowsN]
    refine ⟨List.pairwise_cons.mpr ⟨fun y hy a ha b hb => ?_, ih.1⟩, fun x hx a ha => ?_⟩
    · have h1 := row_mem h.1 ha
      have h2 := ih.2 y hy b hb
      show Rk true a b
      unfold Rk
      simp
      omega
    · rcases List.mem_cons.mp hx with rfl | hx
      · exact (row_mem h.1 ha).1
      · have := ih.2 x hx a ha
        omega
theorem rows_part : ∀ {ps : List Nest} {f : Int} {x : List Int}, x ∈ rowsN ps f → ∃ n ∈ ps, ∃ g, x = rowN n g
  | [], _, _, h => by rw [rowsN] at h; cases h
  | n :: r, f, x, h => by
    rw [rowsN] at h
    rcases List.mem_cons.mp h with rfl | h
    · exact ⟨n, List.mem_cons_self, f, rfl⟩
    · obtain ⟨m, hm, g, e⟩ := rows_part h
      exact ⟨m, List.mem_cons_of_mem _ hm, g, e⟩
theorem rows_len : ∀ (ps : List Nest) (f : Int), (rowsN ps f).length = ps.length
  | [], _ => by rw [rowsN]; rfl
  | n :: r, f => by rw [rowsN, List.length_cons, List.length_cons, rows_len r]
structure Blocks (k : Bool) (bs : List (List Int)) : Prop where
  two : 2 ≤ bs.length
  ne : ∀ x ∈ bs, x ≠ []
  ap : bs.Pairwise (Apart k)
theorem blocks_of {k : Bool} {ps : List Nest} (f : Int) (hv : validL k ps = true) (hf : fitL ps = true) (h2 : 2 ≤ ps.length) : Blocks k (seenB k (rowsN ps f)) := by
  have h1 := rows_apart ps k f hv
  have hne : ∀ x ∈ rowsN ps f, x ≠ [] := fun x hx z => by
    obtain ⟨n, hn, g, e⟩ := rows_part hx
    have := row_len g (validL_mem hv hn)
    rw [← e, z] at this
    have := words_fit (fitL_mem hf hn)
    simp at *
    omega
  unfold seenB
  cases k
  · refine ⟨by simp [rows_len]; exact h2, fun x hx => hne x (by simpa using hx), ?_⟩
    show ((rowsN ps f).reverse).Pairwise _
    rw [List.pairwise_reverse]
    refine h1.1.imp fun {x y} h a ha b hb => ?_
    have := h b hb a ha
    unfold Rk at *
    simpa using this
  · exact ⟨by simp [rows_len]; exact h2, hne, h1.1⟩
theorem Blocks.no_other {k : Bool} {bs : List (List Int)} (h : Blocks k bs) {b1 b2 : List Int} (e : bs.flatten = b1 ++ b2) (h1 : b1 ≠ []) (h2 : b2 ≠ []) : ¬ Apart (!k) b1 b2 := by
  intro ha
  obtain ⟨x0, r0, e0⟩ : ∃ x r, bs = x :: r := by
    cases bs with
    | nil => exact absurd h.two (by simp)
    | cons x r => exact ⟨x, r, rfl⟩
  obtain ⟨i1, y1, e1⟩ : ∃ i y, bs = i ++ [y] := by
    have : bs ≠ [] := by rw [e0]; simp
    exact ⟨bs.dropLast, bs.getLast this, (List.dropLast_concat_getLast this).symm⟩
  have hx0 : x0 ≠ [] := h.ne x0 (by rw [e0]; simp)
  have hy1 : y1 ≠ [] := h.ne y1 (by rw [e1]; simp)
  have hap : Apart k x0 y1 := by
    rw [e0] at h
    have hr : y1 ∈ r0 := by
      have hl : (x0 :: r0).getLast? = some y1 := by rw [← e0, e1]; simp
      have h2 := h.two
      cases r0 with
      | nil => simp at h2
      | cons z r =>
        rw [List.getLast?_cons_cons] at hl
        exact List.mem_of_getLast? hl
    exact (List.pairwise_cons.mp h.ap).1 y1 hr
  obtain ⟨a, ta, ea⟩ : ∃ a t, x0 = a :: t := by
    cases x0 with
    | nil => exact absurd rfl hx0
    | cons a t => exact ⟨a, t, rfl⟩
  have hc : y1.getLast hy1 ∈ y1 := List.getLast_mem hy1
  have ha1 : a ∈ b1 := by
    cases b1 with
    | nil => exact absurd rfl h1
    | cons b r =>
      rw [e0, ea] at e
      simp at e
      rw [e.1]
      exact List.mem_cons_self
  have hc2 : y1.getLast hy1 ∈ b2 := by
    have h3 : bs.flatten.getLast? = some (y1.getLast hy1) := by
      rw [e1, List.flatten_append, List.flatten_cons, List.flatten_nil, List.append_nil, List.getLast?_append, List.getLast?_eq_some_getLast hy1]
      rfl
    rw [e, List.getLast?_append, List.getLast?_eq_some_getLast h2] at h3
    have h3 : some (b2.getLast h2) = some (y1.getLast hy1) := h3
    rw [← Option.some.inj h3]
    exact List.getLast_mem h2
  exact Rk_not (hap a (by rw [ea]; exact List.mem_cons_self) _ hc) (ha a ha1 _ hc2)
def bordF : Nat → List (List Int) → List Nat
  | _, [] => []
  | _, [_] => []
  | a, b :: c :: r => (a + b.length) :: bordF (a + b.length) (c :: r)
theorem bord_len : ∀ (a : Nat) (bs : List (List Int)), (bordF a bs).length = bs.length - 1
  | _, [] => rfl
  | _, [_] => rfl
  | a, b :: c :: r => by
    rw [bordF, List.length_cons, bord_len _ (c :: r)]
    simp
theorem stretch_bord : ∀ (bs : List (List Int)) (pre : List Int), bs ≠ [] → ((pre.length :: bordF pre.length bs).zip (bordF pre.length bs ++ [(pre ++ bs.flatten).length])).map (fun ab => ((pre ++ bs.flatten).drop ab.1).take (ab.2 - ab.1)) = bs
  | [], _, h => absurd rfl h
  | [b], pre, _ => by
    show [((pre ++ (b ++ [])).drop pre.length).take ((pre ++ (b ++ [])).length - pre.length)] = [b]
    rw [List.append_nil, List.drop_left, List.length_append, List.take_of_length_le (by omega)]
  | b :: c :: r, pre, _ => by
    have ih := stretch_bord (c :: r) (pre ++ b) (by simp)
    rw [bordF, List.cons_append, List.zip_cons_cons, List.map_cons]
    have e : pre ++ (b :: c :: r).flatten = (pre ++ b) ++ (c :: r).flatten := by rw [List.flatten_cons, List.append_assoc]
    rw [e]
    rw [List.length_append (as := pre) (bs := b)] at ih
    rw [ih]
    congr 1
    show (((pre ++ b) ++ (c :: r).flatten).drop pre.length).take (pre.length + b.length - pre.length) = b
    rw [List.append_assoc, List.drop_left, Nat.add_sub_cancel_left, List.take_left]
theorem stretch_of {bs : List (List Int)} (h : bs ≠ []) : stretchF bs.flatten (bordF 0 bs) = bs := by
  have := stretch_bord bs [] h
  exact this
theorem bord_mem : ∀ (bs : List (List Int)) (a p : Nat), p ∈ bordF a bs ↔ ∃ X Y, bs = X ++ Y ∧ X ≠ [] ∧ Y ≠ [] ∧ p = a + X.flatten.length
  | [], a, p => by
    refine ⟨(fun h => nomatch h), fun ⟨X, Y, e, h1, _⟩ => ?_⟩
    have := List.append_eq_nil_iff.mp e.symm
    exact absurd this.1 h1
  | [b], a, p => by
    refine ⟨(fun h => nomatch h), fun ⟨X, Y, e, h1, h2, _⟩ => ?_⟩
    have := congrArg List.length e
    have l1 := List.length_pos_iff.mpr h1
    have l2 := List.length_pos_iff.mpr h2
    simp at this
    omega
  | b :: c :: r, a, p => by
    rw [bordF, List.mem_cons, bord_mem (c :: r) (a + b.length) p]
    constructor
    · rintro (rfl | ⟨X, Y, e, h1, h2, rfl⟩)
      · exact ⟨[b], c :: r, rfl, by simp, by simp, by simp⟩
      · exact ⟨b :: X, Y, by rw [e]; rfl, by simp, h2, by simp; omega⟩
    · rintro ⟨X, Y, e, h1, h2, rfl⟩
      cases X with
      | nil => exact absurd rfl h1
      | cons x X =>
        rw [List.cons_append] at e
        injection e with e1 e2
        subst e1
        cases X with
        | nil => exact .inl (by simp)
        | cons y X => exact .inr ⟨y :: X, Y, e2, by simp, h2, by simp; omega⟩
theorem bord_asc : ∀ (bs : List (List Int)) (a : Nat), (∀ x ∈ bs, x ≠ []) → (bordF a bs).Pairwise (· < ·) ∧ ∀ p ∈ bordF a bs, a < p
  | [], _, _ => ⟨.nil, fun _ h => nomatch h⟩
  | [_], _, _ => ⟨.nil, fun _ h => nomatch h⟩
  | b :: c :: r, a, h => by
    have ih := bord_asc (c :: r) (a + b.length) fun x hx => h x (List.mem_cons_of_mem _ hx)
    have hb := List.length_pos_iff.mpr (h b List.mem_cons_self)
    rw [bordF]
    refine ⟨List.pairwise_cons.mpr ⟨ih.2, ih.1⟩, fun p hp => ?_⟩
    rcases List.mem_cons.mp hp with rfl | hp
    · omega
    · have := ih.2 p hp
      omega
theorem pos_cases : ∀ (bs : List (List Int)) (p : Nat), 0 < p → p < bs.flatten.length → (∃ X Y, bs = X ++ Y ∧ X ≠ [] ∧ Y ≠ [] ∧ p = X.flatten.length) ∨ ∃ X b1 b2 Y, bs = X ++ (b1 ++ b2) :: Y ∧ b1 ≠ [] ∧ b2 ≠ [] ∧ p = X.flatten.length + b1.length
  | [], p, h1, h2 => by simp at h2
  | b :: r, p, h1, h2 => by
    rw [List.flatten_cons, List.length_append] at h2
    by_cases hp : p < b.length
    · refine .inr ⟨[], b.take p, b.drop p, r, by simp, fun z => ?_, fun z => ?_, by simp; omega⟩
      · have := congrArg List.length z
        rw [List.length_take, List.length_nil] at this
        omega
      · have := congrArg List.length z
        rw [List.length_drop, List.length_nil] at this
        omega
    · by_cases he : p = b.length
      · refine .inl ⟨[b], r, rfl, by simp, fun z => ?_, by simp [he]⟩
        rw [z] at h2
        simp at h2
        omega
      · rcases pos_cases r (p - b.length) (by omega) (by omega) with ⟨X, Y, rfl, h3, h4, h5⟩ | ⟨X, b1, b2, Y, rfl, h3, h4, h5⟩
        · exact .inl ⟨b :: X, Y, rfl, by simp, h4, by rw [List.flatten_cons, List.length_append]; omega⟩
        · exact .inr ⟨b :: X, b1, b2, Y, rfl, h3, h4, by rw [List.flatten_cons, List.length_append]; omega⟩
theorem asc_ext : ∀ {l m : List Nat}, l.Pairwise (· < ·) → m.Pairwise (· < ·) → (∀ x, x ∈ l ↔ x ∈ m) → l = m
  | [], [], _, _, _ => rfl
  | [], y :: m, _, _, h => absurd ((h y).mpr List.mem_cons_self) (by simp)
  | x :: l, [], _, _, h => absurd ((h x).mp List.mem_cons_self) (by simp)
  | x :: l, y :: m, hl, hm, h => by
    obtain ⟨l1, l2⟩ := List.pairwise_cons.mp hl
    obtain ⟨m1, m2⟩ := List.pairwise_cons.mp hm
    have e : x = y := by
      rcases List.mem_cons.mp ((h x).mp List.mem_cons_self) with z | z
      · exact z
      · rcases List.mem_cons.mp ((h y).mpr List.mem_cons_self) with w | w
        · exact w.symm
        · have := m1 x z
          have := l1 y w
          omega
    subst e
    rw [asc_ext l2 m2 fun z => ?_]
    constructor
    · intro hz
      rcases List.mem_cons.mp ((h z).mp (List.mem_cons_of_mem _ hz)) with w | w
      · have := l1 z hz
        omega
      · exact w
    · intro hz
      rcases List.mem_cons.mp ((h z).mpr (List.mem_cons_of_mem _ hz)) with w | w
      · have := m1 z hz
        omega
      · exact w
theorem cut_iff {k : Bool} {bs : List (List Int)} (h : Blocks k bs) (hin : ∀ x ∈ bs, ∀ b1 b2, x = b1 ++ b2 → b1 ≠ [] → b2 ≠ [] → ¬ Apart k b1 b2) {p : Nat} (h1 : 0 < p) (h2 : p < bs.flatten.length) :
    Apart k (bs.flatten.take p) (bs.flatten.drop p) ↔ p ∈ bordF 0 bs := by
  rw [bord_mem]
  constructor
  · intro ha
    rcases pos_cases bs p h1 h2 with ⟨X, Y, e, h3, h4, h5⟩ | ⟨X, b1, b2, Y, e, h3, h4, h5⟩
    · exact ⟨X, Y, e, h3, h4, by omega⟩
    · refine absurd (fun a ha1 c hc1 => ?_) (hin (b1 ++ b2) (by rw [e]; simp) b1 b2 rfl h3 h4)
      have ef : bs.flatten = (X.flatten ++ b1) ++ (b2 ++ Y.flatten) := by rw [e, List.flatten_append, List.flatten_cons]; simp
      have ep : p = (X.flatten ++ b1).length := by rw [List.length_append]; exact h5
      refine ha a ?_ c ?_
      · rw [ef, ep, List.take_left]
        exact List.mem_append_right _ ha1
      · rw [ef, ep, List.drop_left]
        exact List.mem_append_left _ hc1
  · rintro ⟨X, Y, e, h3, h4, h5⟩ a ha c hc
    have ef : bs.flatten = X.flatten ++ Y.flatten := by rw [e, List.flatten_append]
    have ep : p = X.flatten.length := by omega
    rw [ef, ep, List.take_left] at ha
    rw [ef, ep, List.drop_left] at hc
    obtain ⟨x, hx, hax⟩ := List.mem_flatten.mp ha
    obtain ⟨y, hy, hcy⟩ := List.mem_flatten.mp hc
    have hp := h.ap
    rw [e, List.pairwise_append] at hp
    exact hp.2.2 x hx y hy a hax c hcy
theorem rise_apart {ord : List Int} (h : IsOrd ord) {p : Nat} (hp : p ≤ ord.length) : upB ord p = true ↔ Apart true (ord.take p) (ord.drop p) := by
  rw [up_iff h hp]
  constructor
  · intro z a ha b hb
    have := z a ha b hb
    unfold Rk
    simpa using this
  · intro z a ha b hb
    have := z a ha b hb
    unfold Rk at this
    simpa using this
theorem fall_apart {ord : List Int} (h : IsOrd ord) {p : Nat} (hp : p ≤ ord.length) : dnB ord p = true ↔ Apart false (ord.take p) (ord.drop p) := by
  rw [dn_iff h hp]
  constructor
  · intro z a ha b hb
    have := z a ha b hb
    unfold Rk
    simpa using this
  · intro z a ha b hb
    have := z a ha b hb
    unfold Rk at this
    simpa using this
def cutB (k : Bool) (ord : List Int) : Nat → Bool := if k then upB ord else dnB ord
theorem cutB_apart {k : Bool} {ord : List Int} (h : IsOrd ord) {p : Nat} (hp : p ≤ ord.length) : cutB k ord p = true ↔ Apart k (ord.take p) (ord.drop p) := by
  cases k
  · exact fall_apart h hp
  · exact rise_apart h hp
theorem places_bord {k : Bool} {bs : List (List Int)} (hO : IsOrd bs.flatten) (h : Blocks k bs) (hin : ∀ x ∈ bs, ∀ b1 b2, x = b1 ++ b2 → b1 ≠ [] → b2 ≠ [] → ¬ Apart k b1 b2) :
    places bs.flatten (cutB k bs.flatten) (bs.flatten.length - 1) = bordF 0 bs := by
  have hp := places_asc bs.flatten (cutB k bs.flatten) (bs.flatten.length - 1)
  have hb := bord_asc bs 0 h.ne
  refine asc_ext hp.1 hb.1 fun p => ⟨fun hm => ?_, fun hm => ?_⟩
  · obtain ⟨h1, h2, h3⟩ := hp.2 p hm
    exact (cut_iff h hin (by omega) (by omega)).mp ((cutB_apart hO (by omega)).mp h3)
  · obtain ⟨X, Y, e, h3, h4, h5⟩ := (bord_mem bs 0 p).mp hm
    have h6 := hb.2 p hm
    have hy : 0 < Y.flatten.length := by
      cases Y with
      | nil => exact absurd rfl h4
      | cons y r =>
        have := List.length_pos_iff.mpr (h.ne y (by rw [e]; simp))
        rw [List.flatten_cons, List.length_append]
        omega
    have hl : bs.flatten.length = X.flatten.length + Y.flatten.length := by rw [e, List.flatten_append, List.length_append]
    unfold places
    refine List.mem_filter.mpr ⟨List.mem_map.mpr ⟨p - 1, List.mem_range.mpr (by omega), by omega⟩, ?_⟩
    exact (cutB_apart hO (by omega)).mpr ((cut_iff h hin (by omega) (by omega)).mpr hm)
theorem places_none {k : Bool} {bs : List (List Int)} (hO : IsOrd bs.flatten) (h : Blocks k bs) : places bs.flatten (cutB (!k) bs.flatten) (bs.flatten.length - 1) = [] := by
  have hp := places_asc bs.flatten (cutB (!k) bs.flatten) (bs.flatten.length - 1)
  cases hx : places bs.flatten (cutB (!k) bs.flatten) (bs.flatten.length - 1) with
  | nil => rfl
  | cons p r =>
    obtain ⟨h1, h2, h3⟩ := hp.2 p (by rw [hx]; exact List.mem_cons_self)
    have ha := (cutB_apart hO (by omega)).mp h3
    refine absurd ha (h.no_other (List.take_append_drop p _).symm (fun z => ?_) fun z => ?_)
    · have := congrArg List.length z
      simp only [List.length_take, List.length_nil] at this
      omega
    · have := congrArg List.length z
      simp only [List.length_drop, List.length_nil] at this
      omega
theorem cutF_blocks {k : Bool} {bs : List (List Int)} (hO : IsOrd bs.flatten) (h : Blocks k bs) (hin : ∀ x ∈ bs, ∀ b1 b2, x = b1 ++ b2 → b1 ≠ [] → b2 ≠ [] → ¬ Apart k b1 b2) : cutF bs.flatten = (kS k, bordF 0 bs) := by
  have h1 := places_bord hO h hin
  have h2 := places_none hO h
  have hne : bordF 0 bs ≠ [] := fun z => by
    have := congrArg List.length z
    rw [bord_len] at this
    have := h.two
    simp at *
    omega
  unfold cutF risF falF
  cases k
  · have h1 : places bs.flatten (dnB bs.flatten) (bs.flatten.length - 1) = bordF 0 bs := h1
    have h2 : places bs.flatten (upB bs.flatten) (bs.flatten.length - 1) = [] := h2
    rw [if_pos h2, h1, if_neg hne]
    rfl
  · have h1 : places bs.flatten (upB bs.flatten) (bs.flatten.length - 1) = bordF 0 bs := h1
    rw [h1, if_neg hne]
    rfl
theorem fromTo_strict (f : Int) (n : Nat) : (fromTo f n).Pairwise (· < ·) := by
  unfold fromTo
  rw [List.pairwise_map]
  exact (upto_strict n).imp fun h => by omega
theorem fromTo_get (f : Int) {n i : Nat} (h : i < n) : (fromTo f n)[i]? = some (f + (i : Int)) := by
  unfold fromTo
  rw [List.getElem?_map, upto_get h]
  rfl
theorem filter_block {ord X B Y : List Int} (h : ord.Nodup) (e : ord = X ++ B ++ Y) : ord.filter (fun w => decide (w ∈ B)) = B := by
  subst e
  have h1 := List.nodup_append.mp h
  have h2 := List.nodup_append.mp h1.1
  rw [List.filter_append, List.filter_append]
  have hX : X.filter (fun w => decide (w ∈ B)) = [] := by
    rw [List.filter_eq_nil_iff]
    intro w hw z
    exact h2.2.2 w hw w (by simpa using z) rfl
  have hY : Y.filter (fun w => decide (w ∈ B)) = [] := by
    rw [List.filter_eq_nil_iff]
    intro w hw z
    exact h1.2.2 w (List.mem_append_right _ (by simpa using z)) w hw rfl
  have hB : B.filter (fun w => decide (w ∈ B)) = B := by
    rw [List.filter_eq_self]
    intro w hw
    simpa using hw
  rw [hX, hY, hB]
  simp
theorem left_row {ord X Y : List Int} {n : Nest} {o : Option Bool} {g : Int} (h : ord.Nodup) (hv : valid o n = true) (e : ord = X ++ rowN n g ++ Y) : leftF ord (rowN n g) = rowN n 0 := by
  unfold leftF
  rw [filter_block h e]
  have hp := row_perm n o g hv
  have hs : rowN n 0 = (rowN n g).map fun w => w + -g := by
    rw [← row_shift, show g + -g = 0 by omega]
  rw [hs]
  apply List.map_congr_left
  intro w hw
  have hm := row_mem hv hw
  rw [rank_perm hp]
  have := strict_rank (fromTo_strict g (words n)) (fromTo_get g (i := (w - g).toNat) (by omega))
  rw [show g + (((w - g).toNat : Nat) : Int) = w by omega] at this
  rw [this]
  omega
theorem rows_map (F : List Int → Option Nest) : ∀ (ps : List Nest) (f : Int), (∀ n g, n ∈ ps → rowN n g ∈ rowsN ps f → F (rowN n g) = some n) → (rowsN ps f).map F = ps.map some
  | [], f, _ => by rw [rowsN]; rfl
  | n :: r, f, h => by
    rw [rowsN] at h ⊢
    rw [List.map_cons, List.map_cons, h n f List.mem_cons_self List.mem_cons_self, rows_map F r _ fun m g hm hg => h m g (List.mem_cons_of_mem _ hm) (List.mem_cons_of_mem _ hg)]
theorem mem_seen {k : Bool} {rs : List (List Int)} {x : List Int} : x ∈ seenB k rs ↔ x ∈ rs := by
  unfold seenB
  cases k
  · show x ∈ rs.reverse ↔ _
    exact List.mem_reverse
  · exact Iff.rfl
theorem inner_none {k : Bool} {ps : List Nest} {f : Int} (hv : validL k ps = true) (hf : fitL ps = true) : ∀ x ∈ seenB k (rowsN ps f), ∀ b1 b2, x = b1 ++ b2 → b1 ≠ [] → b2 ≠ [] → ¬ Apart k b1 b2 := by
  intro x hx b1 b2 e h1 h2
  obtain ⟨n, hn, g, rfl⟩ := rows_part (mem_seen.mp hx)
  have hvn := validL_mem hv hn
  have hfn := fitL_mem hf hn
  cases n with
  | bad => simp [valid] at hvn
  | word =>
    rw [rowN] at e
    have := congrArg List.length e
    have l1 := List.length_pos_iff.mpr h1
    have l2 := List.length_pos_iff.mpr h2
    simp at this
    omega
  | knot k' qs =>
    simp only [valid, Bool.and_eq_true] at hvn
    rw [fit, Bool.and_eq_true, decide_eq_true_eq] at hfn
    have hk : k = !k' := by
      have := hvn.1
      cases k <;> cases k' <;> simp at this ⊢
    rw [hk]
    rw [row_seen] at e
    exact (blocks_of g hvn.2 hfn.2 hfn.1).no_other e h1 h2
theorem cutF_row {k : Bool} {ps : List Nest} {o : Option Bool} (hv : valid o (.knot k ps) = true) (hf : fit (.knot k ps) = true) : cutF (rowN (.knot k ps) 0) = (kS k, bordF 0 (seenB k (rowsN ps 0))) := by
  have hO := (row_ord hv).1
  have hvl : validL k ps = true := by simp only [valid, Bool.and_eq_true] at hv; exact hv.2
  rw [fit, Bool.and_eq_true, decide_eq_true_eq] at hf
  rw [row_seen] at hO ⊢
  exact cutF_blocks hO (blocks_of 0 hvl hf.2 hf.1) (inner_none hvl hf.2)
theorem nest_row : ∀ (d : Nat) (n : Nest) (o : Option Bool), valid o n = true → fit n = true → words n ≤ d → nestF d (rowN n 0) = some n
  | 0, n, o, _, hf, hd => by
    have := words_fit hf
    omega
  | d + 1, .word, o, _, _, _ => by
    rw [rowN, nestF, if_pos (show [(0 : Int)].length = 1 from rfl)]
  | d + 1, .bad, o, hv, _, _ => by simp [valid] at hv
  | d + 1, .knot k ps, o, hv, hf, hd => by
    have hO := row_ord hv
    have hc := cutF_row hv hf
    have hvl : validL k ps = true := by simp only [valid, Bool.and_eq_true] at hv; exact hv.2
    have hf' := hf
    rw [fit, Bool.and_eq_true, decide_eq_true_eq] at hf'
    have hw := wordsL_fit hf'.2
    have hwk : words (.knot k ps) = wordsL ps := by rw [words]
    have hB := blocks_of 0 hvl hf'.2 hf'.1
    have hne : bordF 0 (seenB k (rowsN ps 0)) ≠ [] := fun z => by
      have := congrArg List.length z
      rw [bord_len] at this
      have := hB.two
      simp at *
      omega
    rw [nestF, if_neg (by rw [hO.2]; omega), hc, if_neg hne]
    have hst : stretchF (rowN (.knot k ps) 0) (bordF 0 (seenB k (rowsN ps 0))) = seenB k (rowsN ps 0) := by
      rw [row_seen]
      refine stretch_of fun z => ?_
      have := hB.two
      rw [z] at this
      simp at this
    rw [hst]
    have hmap : (rowsN ps 0).map (fun b => nestF d (leftF (rowN (.knot k ps) 0) b)) = ps.map some := by
      refine rows_map _ ps 0 fun n g hn hg => ?_
      have hvn := validL_mem hvl hn
      obtain ⟨X, Y, hXY⟩ := List.append_of_mem (mem_seen (k := k).mpr hg)
      have e : rowN (.knot k ps) 0 = X.flatten ++ rowN n g ++ Y.flatten := by
        rw [row_seen, hXY, List.flatten_append, List.flatten_cons]
        simp
      rw [left_row hO.1.nodup hvn e]
      have := wordsL_part hf'.2 hf'.1 hn
      exact nest_row d n (some k) hvn (fitL_mem hf'.2 hn) (by omega)
    cases k
    · show (allO ((rowsN ps 0).reverse.map _)).map _ = _
      rw [List.map_reverse, hmap, ← List.map_reverse, allO_some]
      show some (if kS false = kS false then Nest.knot false ps.reverse.reverse else _) = _
      rw [if_pos rfl, List.reverse_reverse]
    · show (allO ((rowsN ps 0).map _)).map _ = _
      rw [hmap, allO_some]
      show some (if kS true = kS false then _ else Nest.knot true ps) = _
      rw [if_neg (by decide +kernel)]
end Tn
namespace Tn
open PySem L2
end Tn
namespace Tn
open PySem L2
mutual
def LAt (H : Hp) : Nest → V → Prop
  | .word, v => v = .non
  | .knot _ ps, v => ∃ a vs, v = .ref a ∧ H a = some (.lst vs) ∧ 2 ≤ vs.length ∧ vs.length ≤ 1000 ∧ LsAt H ps vs
  | .bad, _ => False
def LsAt (H : Hp) : List Nest → List V → Prop
  | [], vs => vs = []
  | n :: r, vs => ∃ v vr, vs = v :: vr ∧ LAt H n v ∧ LsAt H r vr
end
def refsO (st : List (Addr × List Nest)) : List V := (st.reverse.map fun x => V.ref x.1)
structure OpenAt (C H : Hp) (pl : Addr) (st : List (Addr × List Nest)) : Prop where
  sm : Same C H
  np : C pl = none
  hp : H pl = some (.lst (refsO st))
  nd : (st.map Prod.fst).Nodup
  npl : pl ∉ st.map Prod.fst
  pr : ∀ x ∈ st, C x.1 = none ∧ ∃ us, H x.1 = some (.lst us) ∧ LsAt C x.2 us
section
variable {C H : Hp} {pl A B : Addr} {ts us : List Nest} {r st : List (Addr × List Nest)}
end
end Tn
namespace L2
open PySem PySem.Spec PyProof PyProof.Rows Tn
theorem DEq.mono {K : PySem.W.Frag} {H : Hp} : ∀ {d : Nat} {x y : V} {b : Bool}, DEq K H d x y b → ∀ {e : Nat}, d ≤ e → DEq K H e x y b := by
  intro d x y b h
  induction h with
  | flat hx hy => intro e _; exact .flat hx hy
  | same => intro e _; exact .same
  | tup hab ha hb he ih =>
    intro e h
    obtain ⟨e', rfl⟩ : ∃ e', e = e' + 1 := ⟨e - 1, by omega⟩
    exact .tup hab ha hb fun j x y h1 h2 => ih j x y h1 h2 (by omega)
  | tupStr ha =>
    intro e h
    obtain ⟨e', rfl⟩ : ∃ e', e = e' + 1 := ⟨e - 1, by omega⟩
    exact .tupStr ha
mutual
theorem nest_deq {K : PySem.W.Frag} {H : Hp} : ∀ {n : Nest} {o : Option Bool} {x y : V}, NestAt K H n x → NestAt K H n y → valid o n = true → DEq K H (2 * depthN n) x y true
  | .word, _, x, y, hx, hy, _ => by
    have hx : x = .non := hx
    have hy : y = .non := hy
    subst hx hy
    exact .flat rfl rfl
  | .knot k ps, _, x, y, ⟨a, b, vs, e, ea, eb, h2, h3, hp⟩, ⟨a', b', vs', e', ea', eb', h2', h3', hp'⟩, hv => by
    subst e e'
    have hvp : validL k ps = true := by simp only [valid, Bool.and_eq_true] at hv; exact hv.2
    rw [depthN, show 2 * (1 + depthL ps) = (2 * depthL ps + 1) + 1 by omega]
    by_cases haa : a = a'
    · subst haa; exact .same
    · refine deq_all (e := fun _ => true) haa (SqT.of ea) (SqT.of ea') rfl (fun j x y h1 h2 => ?_) (by simp)
      match j, h1, h2 with
      | 0, h1, h2 =>
        have h1 : x = .str (kS k) := by simpa using h1.symm
        have h2 : y = .str (kS k) := by simpa using h2.symm
        subst h1 h2
        have := DEq.flat (K := K) (H := H) (d := 2 * depthL ps + 1) (x := .str (kS k)) (y := .str (kS k)) rfl rfl
        have e1 : eqV (.str (kS k)) (.str (kS k)) = true := by simp [eqV]
        rwa [e1] at this
      | 1, h1, h2 =>
        have h1 : x = .ref b := by simpa using h1.symm
        have h2 : y = .ref b' := by simpa using h2.symm
        subst h1 h2
        by_cases hbb : b = b'
        · subst hbb; exact .same
        · have l1 := hp.len
          have l2 := hp'.len
          exact deq_all (e := fun _ => true) hbb (SqT.of eb) (SqT.of eb') (by omega) (fun j x y h1 h2 => nests_deq hp hp' hvp h1 h2) (by simp)
      | j + 2, h1, _ => simp at h1
  | .bad, _, _, _, _, _, h => by simp [valid] at h
theorem nests_deq {K : PySem.W.Frag} {H : Hp} : ∀ {ps : List Nest} {k : Bool} {xs ys : List V}, NestsAt K H ps xs → NestsAt K H ps ys → validL k ps = true → ∀ {j : Nat} {x y : V}, xs[j]? = some x → ys[j]? = some y → DEq K H (2 * depthL ps) x y true
  | [], _, xs, _, hx, _, _, j, x, y, h1, _ => by have hx : xs = [] := hx; subst hx; simp at h1
  | n :: r, k, _, _, ⟨v, vr, e, h1, h2⟩, ⟨v', vr', e', h1', h2'⟩, hv, j, x, y, hj, hj' => by
    subst e e'
    simp only [validL, Bool.and_eq_true] at hv
    rw [depthL]
    match j, hj, hj' with
    | 0, hj, hj' =>
      have a1 : v = x := by simpa using hj
      have a2 : v' = y := by simpa using hj'
      subst a1 a2
      exact (nest_deq h1 h1' hv.1).mono (by have := Nat.le_max_left (depthN n) (depthL r); exact Nat.mul_le_mul_left 2 this)
    | j + 1, hj, hj' =>
      exact (nests_deq h2 h2' hv.2 (j := j) (by simpa using hj) (by simpa using hj')).mono (by have := Nat.le_max_right (depthN n) (depthL r); exact Nat.mul_le_mul_left 2 this)
end
end L2
namespace Tn
open PySem L2
theorem units180 {k : Nat} {A : Around} (r : Room k A) : A.units + 180 < PySem.cLine := by have := r.un; omega
end Tn
namespace Tn
open PySem PySem.Spec PyProof PyProof.Rows
section
variable {prog : Program} {w : World} {A : Around} {E : Value → Shared → Prop} {s : Shared}
theorem nextL_item {it tp : Addr} {k : Nat} {xs : Array Value} {v : Value} {Q : Value → Shared → Prop} (p1 : s.heap.IsListIter it tp k) (p2 : s.heap.IsList tp xs) (hv : xs[k]? = some v)
    (hQ : ∀ g, g.IsListIter it tp (k + 1) → Heap.SameBut it s.heap g → Q v { s with heap := g }) : wpAny (model prog w) A (Builtin.SmallTypes.nextOf (.ref it)) Q E s := by
  obtain ⟨o1, g1, c1, d1⟩ := id p1
  obtain ⟨o2, g2, _, n2, d2⟩ := p2
  unfold Builtin.SmallTypes.nextOf
  refine wpAny_bind (wpAny_callSpecial?_slot (name := Str.ofString "__next__") p1.typeIs slot_listiter_next (wpAny_call_entry slot_listiter_next p1.typeIs entry_listiter_next ?_ (args_listiter_next _)))
  show wpAny _ _ (field (.ref it) 0 >>= _) _ _ _
  refine wpAny_bind (wpAny_field g1 d1 (x := .ref tp) rfl ?_)
  show wpAny _ _ (if (Value.ref tp == Value.none) = true then _ else _) _ _ _
  rw [if_neg (show ¬ ((Value.ref tp == Value.none) = true) from Bool.false_ne_true)]
  show wpAny _ _ (field (.ref it) 1 >>= _) _ _ _
  refine wpAny_bind (wpAny_field g1 d1 (x := .int k 0) rfl ?_)
  show wpAny _ _ (seqItems? (.ref tp) >>= _) _ _ _
  refine wpAny_bind (wpAny_seqItems g2 d2 ?_)
  simp only [Int.toNat_natCast, hv]
  refine wpAny_bind (wpAny_setField g1 d1 (by simp) (wpAny_pure ⟨v, rfl, wpAny_pure (hQ _ ?_ (Heap.SameBut.update ..))⟩))
  exact ⟨_, Heap.get?_update_self _ g1 (Obj.isFreed_of_fields (Obj.data_mapFields d1 _)), (Obj.cls_mapFields ..).trans c1, by
      rw [Obj.data_mapFields d1]; simp [rawInt]⟩
end
section
variable {prog : Program} {w : World} {A : Around} {E : Value → Shared → Prop} {s : Shared} {n : Nat} {t1 t2 : Addr} {k : Nat} {xs ys : Array Value} {x y a b : Value}
theorem zipL_item {Q : Value → Shared → Prop} (d1 : t1 ≠ n + 4) (d2 : t2 ≠ n + 4 ∧ t2 ≠ n + 3 ∧ t2 ≠ n + 0) (hz : IsZip s.heap (n + 4) (n + 2) (n + 3) .none) (hTI : IsPair s.heap (n + 2) (.ref (n + 0)) (.ref (n + 1))) (hTO : IsPair s.heap (n + 3) a b)
    (h1 : s.heap.IsTupleIter (n + 0) t1 k) (h2 : s.heap.IsListIter (n + 1) t2 k) (p1 : s.heap.IsTuple t1 xs) (p2 : s.heap.IsList t2 ys) (hx : xs[k]? = some x) (hy : ys[k]? = some y)
    (hQ : ∀ h', IsZip h' (n + 4) (n + 2) (n + 3) (rawInt s.heap.objs.size) → IsPair h' (n + 3) x y → h'.IsTupleIter (n + 0) t1 (k + 1) → h'.IsListIter (n + 1) t2 (k + 1) → IsPair h' s.heap.objs.size x y →
      (∀ c o, c ≠ n + 4 → c ≠ n + 3 → c ≠ n + 0 → c ≠ n + 1 → s.heap.get? c = some o → h'.get? c = some o) → Q (.ref s.heap.objs.size) { s with heap := h' }) :
    wpAny (model prog w) A (Builtin.«zip.__next__» ⟨[.ref (n + 4)], []⟩) (fun fin s' => ∃ v, fin = .done (.ret v) ∧ Q v s') E s := by
  show wpAny _ _ (field (.ref (n + 4)) 2 >>= _) _ _ _
  refine wpAny_bind (wpAny_field hz rfl (x := .bool false) rfl ?_)
  show wpAny _ _ (field (.ref (n + 4)) 3 >>= _) _ _ _
  refine wpAny_bind (wpAny_field hz rfl (x := .ref (n + 2)) rfl ?_)
  refine wpAny_bind (wpAny_seqItems hTI rfl ?_)
  show wpAny _ _ (Builtin.SmallTypes.ownedTupleIsFree (.ref (n + 4)) >>= _) _ _ _
  refine wpAny_bind ?_
  unfold Builtin.SmallTypes.ownedTupleIsFree
  refine wpAny_bind (wpAny_field hz rfl (x := .none) rfl (wpAny_pure ?_))
  simp only [if_true]
  refine wpAny_bind (wpAny_rule ?_)
  refine wpAny_bind (wpAny_field hz rfl (x := .ref (n + 3)) rfl ?_)
  refine wpAny_bind (wpAny_setField_rec hz (by simp) fun g1 z1 s1 => ?_)
  replace z1 : IsZip g1 (n + 4) (n + 2) (n + 3) .ellipsis := z1
  refine wpAny_bind ?_
  simp only [List.zipIdx_cons, List.zipIdx_nil, List.forIn_cons, List.forIn_nil]
  refine wpAny_bind (wpAny_bind (wpAny_onRaise ?_))
  show wpAny _ _ (Builtin.SmallTypes.nextOf (.ref (n + 0)) >>= _) _ _ _
  refine wpAny_bind (nextT_item (tupIter_at h1 fun o e => s1.extBut _ _ (nz 0 4) e) (tup_at p1 fun o e => s1.extBut _ _ d1 e) hx fun g2 i2 s2 => wpAny_pure ?_)
  have o2 : IsPair g2 (n + 3) a b := s2.extBut _ _ (nz 3 0) (s1.extBut _ _ (nz 3 4) hTO)
  refine wpAny_bind (wpAny_seqItems o2 rfl ?_)
  refine wpAny_bind (wpAny_updateSeq_pair o2 fun g3 o3 s3 => ?_)
  replace o3 : IsPair g3 (n + 3) x b := o3
  refine wpAny_bind (wpAny_letGo (wpAny_pure ?_))
  refine wpAny_bind (wpAny_bind (wpAny_onRaise ?_))
  show wpAny _ _ (Builtin.SmallTypes.nextOf (.ref (n + 1)) >>= _) _ _ _
  have up3 : ∀ c o, c ≠ n + 4 → c ≠ n + 3 → c ≠ n + 0 → s.heap.get? c = some o → g3.get? c = some o := fun c o c4 c3 c0 e => s3.extBut _ _ c3 (s2.extBut _ _ c0 (s1.extBut _ _ c4 e))
  refine wpAny_bind (nextL_item (tupIter_atL h2 fun o e => up3 _ o (nz 1 4) (nz 1 3) (nz 1 0) e) (tup_atL p2 fun o e => up3 _ o d2.1 d2.2.1 d2.2.2 e) hy fun g4 i4 s4 => wpAny_pure ?_)
  have o4 : IsPair g4 (n + 3) x b := s4.extBut _ _ (nz 3 1) o3
  refine wpAny_bind (wpAny_seqItems o4 rfl ?_)
  refine wpAny_bind (wpAny_updateSeq_pair o4 fun g5 o5 s5 => ?_)
  replace o5 : IsPair g5 (n + 3) x y := o5
  refine wpAny_bind (wpAny_letGo (wpAny_pure (wpAny_pure ?_)))
  refine wpAny_bind (wpAny_seqItems o5 rfl ?_)
  refine wpAny_bind (wpAny_newTuple ?_)
  have hsz : g5.objs.size = s.heap.objs.size := by rw [s5.1, s4.1, s3.1, s2.1, s1.1]
  have z5 : IsZip g5 (n + 4) (n + 2) (n + 3) .ellipsis := s5.extBut _ _ (nz 4 3) (s4.extBut _ _ (nz 4 1) (s3.extBut _ _ (nz 4 3) (s2.extBut _ _ (nz 4 0) z1)))
  have up5 : ∀ c o, c ≠ n + 4 → c ≠ n + 3 → c ≠ n + 0 → c ≠ n + 1 → s.heap.get? c = some o → g5.get? c = some o := fun c o c4 c3 c0 c1 e => s5.extBut _ _ c3 (s4.extBut _ _ c1 (up3 c o c4 c3 c0 e))
  have i5 : g5.IsTupleIter (n + 0) t1 (k + 1) := tupIter_at i2 fun o e => s5.extBut _ _ (nz 0 3) (s4.extBut _ _ (nz 0 1) (s3.extBut _ _ (nz 0 3) e))
  have j5 : g5.IsListIter (n + 1) t2 (k + 1) := tupIter_atL i4 fun o e => s5.extBut _ _ (nz 1 3) e
  have zlt : n + 4 < g5.objs.size := Heap.lt_size z5
  show wpAny _ _ (Builtin.SmallTypes.ownedTupleHandOut (.ref (n + 4)) (.ref g5.objs.size) >>= _) _ _ _
  refine wpAny_bind ?_
  unfold Builtin.SmallTypes.ownedTupleHandOut
  have z6 : IsZip (g5.push { cls := .type "tuple", data := .seq #[x, y] }) (n + 4) (n + 2) (n + 3) .ellipsis := Heap.get?_push_of_some _ z5
  refine wpAny_bind (wpAny_setField_rec z6 (by simp) fun g7 z7 s7 => ?_)
  replace z7 : IsZip g7 (n + 4) (n + 2) (n + 3) (rawInt g5.objs.size) := z7
  refine wpAny_setField_rec z7 (by simp) fun g8 z8 s8 => ?_
  replace z8 : IsZip g8 (n + 4) (n + 2) (n + 3) (rawInt g5.objs.size) := z8
  have up8 : ∀ c o, c ≠ n + 4 → g5.get? c = some o → g8.get? c = some o := fun c o c4 e => s8.extBut _ _ c4 (s7.extBut _ _ c4 (Heap.get?_push_of_some _ e))
  have t8 : IsPair g8 g5.objs.size x y := s8.extBut _ _ (Nat.ne_of_gt zlt) (s7.extBut _ _ (Nat.ne_of_gt zlt) (Heap.get?_push_size _ rfl))
  rw [hsz] at z8 t8
  refine wpAny_pure ⟨_, rfl, ?_⟩
  show Q (.ref g5.objs.size) _
  rw [hsz]
  exact hQ g8 z8 (up8 _ _ (nz 3 4) o5) (tupIter_at i5 fun o e => up8 _ o (nz 0 4) e) (tupIter_atL j5 fun o e => up8 _ o (nz 1 4) e) t8 fun c o c4 c3 c0 c1 e => up8 c o c4 (up5 c o c4 c3 c0 c1 e)
theorem nextZL_item {Q : Option Value → Shared → Prop} (d1 : t1 ≠ n + 4) (d2 : t2 ≠ n + 4 ∧ t2 ≠ n + 3 ∧ t2 ≠ n + 0) (hz : IsZip s.heap (n + 4) (n + 2) (n + 3) .none) (hTI : IsPair s.heap (n + 2) (.ref (n + 0)) (.ref (n + 1))) (hTO : IsPair s.heap (n + 3) a b)
    (h1 : s.heap.IsTupleIter (n + 0) t1 k) (h2 : s.heap.IsListIter (n + 1) t2 k) (p1 : s.heap.IsTuple t1 xs) (p2 : s.heap.IsList t2 ys) (hx : xs[k]? = some x) (hy : ys[k]? = some y)
    (hQ : ∀ h', IsZip h' (n + 4) (n + 2) (n + 3) (rawInt s.heap.objs.size) → IsPair h' (n + 3) x y → h'.IsTupleIter (n + 0) t1 (k + 1) → h'.IsListIter (n + 1) t2 (k + 1) → IsPair h' s.heap.objs.size x y →
      (∀ c o, c ≠ n + 4 → c ≠ n + 3 → c ≠ n + 0 → c ≠ n + 1 → s.heap.get? c = some o → h'.get? c = some o) → Q (some (.ref s.heap.objs.size)) { s with heap := h' }) :
    wpAny (model prog w) A (pyNext (.ref (n + 4))) Q E s := by
  have hT : s.TypeIs (.ref (n + 4)) "zip" := ⟨_, hz, rfl⟩
  unfold pyNext
  exact wpAny_bind (wpAny_attempt (wpAny_callSpecial?_slot (name := Str.ofString "__next__") hT F.slot_zip_next
    (wpAny_call_entry F.slot_zip_next hT F.entry_zip_next (zipL_item d1 d2 hz hTI hTO h1 h2 p1 p2 hx hy fun h' a1 a2 a3 a4 a5 a6 => wpAny_pure (hQ h' a1 a2 a3 a4 a5 a6)) (F.args_zip_next_1 _))))
end
def zBL (h : Heap) (t1 t2 : Addr) : Heap := (zA h t1).push { cls := .type "list_iterator", data := .fields #[.ref t2, .int 0 0] }
def zCL (h : Heap) (t1 t2 : Addr) : Heap := ((zBL h t1 t2).push { cls := .type "tuple", data := .seq #[.ref h.objs.size, .ref (zA h t1).objs.size] }).push { cls := .type "tuple", data := .seq #[.none, .none] }
theorem zipL_new (t1 t2 : Addr) (xs ys : Array Value) :
    Meets (Builtin.«zip.__new__» ⟨[.type "zip", .ref t1, .ref t2], []⟩) (fun _ R s => s.heap.IsTuple t1 xs ∧ s.heap.IsList t2 ys ∧
      R (.ok (.ret (.ref (zCL s.heap t1 t2).objs.size))) { s with heap := (zCL s.heap t1 t2).push { cls := .type "zip", data := .fields #[.none, .bool false, .bool false, .ref (zBL s.heap t1 t2).objs.size, .ref ((zBL s.heap t1 t2).push { cls := .type "tuple", data := .seq #[.ref s.heap.objs.size, .ref (zA s.heap t1).objs.size] }).objs.size] } }) :=
  .of_wp fun prog w A R s h => by
    obtain ⟨hp, g, d, tk, os⟩ := s; obtain ⟨hl1, hl2, h⟩ := h
    have hsub := sub_zip
    have hL1 : Heap.IsTuple (Shared.heap ⟨hp, g, d, tk, os⟩) t1 xs := hl1
    have hL2 : Heap.IsList (Shared.heap ⟨hp.push { cls := .type "tuple_iterator", data := .fields #[.ref t1, .int 0 0] }, g, d, tk, os⟩) t2 ys := tup_atL hl2 fun o e => Heap.get?_push_of_some _ e
    wp_walk using wpAny_pyIter_tuple hL1, wpAny_pyIter_list hL2
    exact ⟨_, rfl, h⟩
theorem call_zipL {prog : Program} {w : World} {A : Around} {E : Value → Shared → Prop} {s : Shared} {t1 t2 : Addr} {xs ys : Array Value} {Q : Value → Shared → Prop} (hl1 : s.heap.IsTuple t1 xs) (hl2 : s.heap.IsList t2 ys)
    (h : ∀ h', IsZip h' (s.heap.objs.size + 4) (s.heap.objs.size + 2) (s.heap.objs.size + 3) .none → IsPair h' (s.heap.objs.size + 2) (.ref (s.heap.objs.size + 0)) (.ref (s.heap.objs.size + 1)) →
      IsPair h' (s.heap.objs.size + 3) .none .none → h'.IsTupleIter (s.heap.objs.size + 0) t1 0 → h'.IsListIter (s.heap.objs.size + 1) t2 0 →
      (∀ c o, s.heap.get? c = some o → h'.get? c = some o) → Q (.ref (s.heap.objs.size + 4)) { s with heap := h' }) :
    wpAny (model prog w) A (call (.type "zip") [.ref t1, .ref t2]) Q E s := by
  refine callType_new F.called_zip (by decide) (F.typeCall_zip_2 _ _) (F.newCall_zip_2 _ _) (fun obj => F.args_object_init_3 obj _ _) F.entry_zip_new (zipL_new t1 t2 xs ys) ⟨hl1, hl2, ?_⟩
  have a1 : (zA s.heap t1).objs.size = s.heap.objs.size + 1 := Heap.size_push ..
  have a2 : (zBL s.heap t1 t2).objs.size = s.heap.objs.size + 2 := by unfold zBL; rw [Heap.size_push, a1]
  have a3 : ((zBL s.heap t1 t2).push { cls := .type "tuple", data := .seq #[.ref s.heap.objs.size, .ref (zA s.heap t1).objs.size] }).objs.size = s.heap.objs.size + 3 := by rw [Heap.size_push, a2]
  have a4 : (zCL s.heap t1 t2).objs.size = s.heap.objs.size + 4 := by unfold zCL; rw [Heap.size_push, a3]
  show _ ∧ _
  rw [a3, a2, a4]
  have k4 : ∀ c o, (zCL s.heap t1 t2).get? c = some o → ((zCL s.heap t1 t2).push { cls := .type "zip", data := .fields #[.none, .bool false, .bool false, .ref (s.heap.objs.size + 2), .ref (s.heap.objs.size + 3)] }).get? c = some o := fun c o e => Heap.get?_push_of_some _ e
  have k2 : ∀ c o, (zBL s.heap t1 t2).get? c = some o → (zCL s.heap t1 t2).get? c = some o := fun c o e => Heap.get?_push_of_some _ (Heap.get?_push_of_some _ e)
  have k1 : ∀ c o, (zA s.heap t1).get? c = some o → (zBL s.heap t1 t2).get? c = some o := fun c o e => Heap.get?_push_of_some _ e
  have g1 : (zA s.heap t1).get? s.heap.objs.size = some { cls := .type "tuple_iterator", data := .fields #[.ref t1, .int 0 0] } := Heap.get?_push_size _ rfl
  have g2 : (zBL s.heap t1 t2).get? (zA s.heap t1).objs.size = some { cls := .type "list_iterator", data := .fields #[.ref t2, .int 0 0] } := Heap.get?_push_size _ rfl
  have g3 : (zCL s.heap t1 t2).get? (zBL s.heap t1 t2).objs.size = some { cls := .type "tuple", data := .seq #[.ref s.heap.objs.size, .ref (zA s.heap t1).objs.size] } := Heap.get?_push_of_some _ (Heap.get?_push_size _ rfl)
  have g4 : (zCL s.heap t1 t2).get? ((zBL s.heap t1 t2).push { cls := .type "tuple", data := .seq #[.ref s.heap.objs.size, .ref (zA s.heap t1).objs.size] }).objs.size = some { cls := .type "tuple", data := .seq #[.none, .none] } := Heap.get?_push_size _ rfl
  have g5 : ((zCL s.heap t1 t2).push { cls := .type "zip", data := .fields #[.none, .bool false, .bool false, .ref (s.heap.objs.size + 2), .ref (s.heap.objs.size + 3)] }).get? (zCL s.heap t1 t2).objs.size = some { cls := .type "zip", data := .fields #[.none, .bool false, .bool false, .ref (s.heap.objs.size + 2), .ref (s.heap.objs.size + 3)] } := Heap.get?_push_size _ rfl
  rw [a4] at g5
  rw [a3] at g4
  rw [a2, a1] at g3
  rw [a1] at g2
  exact ⟨⟨_, g5, rfl⟩, h _ g5 (k4 _ _ g3) (k4 _ _ g4) ⟨_, k4 _ _ (k2 _ _ (k1 _ _ g1)), rfl, rfl⟩ ⟨_, k4 _ _ (k2 _ _ g2), rfl, rfl⟩ fun c o e => k4 _ _ (k2 _ _ (k1 _ _ (Heap.get?_push_of_some _ e)))⟩
end Tn
namespace L2
open PySem PySem.Spec PyProof.Rows
def Itzl (a b : Addr) : It :=
  ⟨fun i H => ∃ xs ys x y, H a = some (.tup xs) ∧ H b = some (.lst ys) ∧ xs[i]? = some x ∧ ys[i]? = some y,
   fun i H v H' => ∃ p x y, H p = none ∧ v = .ref p ∧ (∀ xs, H a = some (.tup xs) → xs[i]? = some x) ∧ (∀ ys, H b = some (.lst ys) → ys[i]? = some y) ∧ H' = upd H p (.tup [x, y]),
   fun i H => ∃ xs ys, H a = some (.tup xs) ∧ H b = some (.lst ys) ∧ xs.length = i⟩
section
variable {X : Cx}
theorem turn_zipL {P : Program} {w : World} {K : PySem.W.Frag} {elts : List Expr} {k : Nat} {tp : Pos} (a b : Addr) (n : Nat) :
    Turn P w K (.Tuple elts k tp) (Itzl a b) [n + 4, n + 2, n + 3, n + 0, n + 1] (n + 4) (fun i h => IsZip h (n + 4) (n + 2) (n + 3) .none ∧ IsPair h (n + 2) (.ref (n + 0)) (.ref (n + 1)) ∧ (∃ u v, IsPair h (n + 3) u v) ∧ h.IsTupleIter (n + 0) a i ∧ h.IsListIter (n + 1) b i) where
  mem := List.mem_cons_self
  obj := fun i h st c hc => by
    obtain ⟨hz, hTI, ⟨u, v, hTO⟩, ⟨o1, q1, _, d1⟩, ⟨o2, q2, _, d2⟩⟩ := st
    rcases List.mem_cons.mp hc with z | hc
    · subst z
      exact ⟨_, hz, fun v z => by
        have z' : Data.fields _ = Data.cell v := z
        cases z'⟩
    rcases List.mem_cons.mp hc with z | hc
    · subst z
      exact ⟨_, hTI, fun v z => by
        have z' : Data.seq _ _ = Data.cell v := z
        cases z'⟩
    rcases List.mem_cons.mp hc with z | hc
    · subst z
      exact ⟨_, hTO, fun v z => by
        have z' : Data.seq _ _ = Data.cell v := z
        cases z'⟩
    rcases List.mem_cons.mp hc with z | hc
    · subst z
      exact ⟨o1, q1, fun v z => by rw [d1] at z; cases z⟩
    · rw [List.mem_singleton.mp hc]
      exact ⟨o2, q2, fun v z => by rw [d2] at z; cases z⟩
  keep := fun i h h' st kp => by
    obtain ⟨hz, hTI, ⟨u, v, hTO⟩, h1, h2⟩ := st
    exact ⟨kp _ (by simp) _ hz, kp _ (by simp) _ hTI, ⟨u, v, kp _ (by simp) _ hTO⟩, Tn.tupIter_at h1 fun o q => kp _ (by simp) o q, Tn.tupIter_atL h2 fun o q => kp _ (by simp) o q⟩
  item := by
    intro X hP hw hK hc i pins s σ H E I hf st hg
    subst hP hw hK
    obtain ⟨xs, ys, x, y, ha, hb, hx, hy⟩ := hg
    obtain ⟨its, rv, p1, _⟩ := I.tuple (SqT.of (K := X.K) ha)
    obtain ⟨jts, rw', p2, _⟩ := I.list (SqL.of (K := X.K) hb)
    obtain ⟨u, hu, ru⟩ := rv.get hx
    obtain ⟨v, hv, rv'⟩ := rw'.get hy
    obtain ⟨hz, hTI, ⟨u0, v0, hTO⟩, h1, h2⟩ := st
    have f4 := hf (n + 4) (by simp)
    have f3 := hf (n + 3) (by simp)
    have f2 := hf (n + 2) (by simp)
    have f0 := hf (n + 0) (by simp)
    have f1 := hf (n + 1) (by simp)
    have ne : ∀ c o, H c = some o → c ≠ n + 4 ∧ c ≠ n + 3 ∧ c ≠ n + 0 ∧ c ≠ n + 1 := fun c o z =>
      ⟨(fun q => by rw [q, f4.1] at z; cases z), (fun q => by rw [q, f3.1] at z; cases z), (fun q => by rw [q, f0.1] at z; cases z), (fun q => by rw [q, f1.1] at z; cases z)⟩
    have hnew : H s.heap.objs.size = none := I.hok.fresh (Nat.le_refl _)
    have ea := ne a _ ha
    have eb := ne b _ hb
    refine Tn.nextZL_item ea.1 ⟨eb.1, eb.2.1, eb.2.2.1⟩ hz hTI hTO h1 h2 (show s.heap.IsTuple a its.toArray from p1) p2.isList (x := u) (y := v) (by simpa using hu) (by simpa using hv) fun h' z' o' i1 i2 t' kp => ?_
    refine ⟨_, rfl, wpAny_letOwnedTupleGo_zip (s := { s with heap := h' }) z' fun g zg sg => ?_⟩
    have zlt : n + 4 < s.heap.objs.size := Heap.lt_size hz
    have up : ∀ c o, c ≠ n + 4 → c ≠ n + 3 → c ≠ n + 0 → c ≠ n + 1 → s.heap.get? c = some o → g.get? c = some o := fun c o c4 c3 c0 c1 e => sg.extBut _ _ c4 (kp c o c4 c3 c0 c1 e)
    have tg : g.get? s.heap.objs.size = some { cls := .type "tuple", data := .seq #[u, v] } := sg.extBut _ _ (Nat.ne_of_gt zlt) t'
    have inch : ∀ c, c ∉ [n + 4, n + 3, n + 0, n + 1] → c ≠ n + 4 ∧ c ≠ n + 3 ∧ c ≠ n + 0 ∧ c ≠ n + 1 := fun c hc => ⟨fun z => hc (by simp [z]), fun z => hc (by simp [z]), fun z => hc (by simp [z]), fun z => hc (by simp [z])⟩
    have I1 : Inv X pins σ (upd H s.heap.objs.size (.tup [x, y])) { s with heap := g } := by
      refine I.step (g' := s.gens) (d' := s.drawn) (ch := [n + 4, n + 3, n + 0, n + 1]) (fun c hc => ?_) (fun c o _ _ hc q _ => let ⟨c4, c3, c0, c1⟩ := inch c hc; up c o c4 c3 c0 c1 q)
        (fun c o _ _ hc q _ => let ⟨c4, c3, c0, c1⟩ := inch c hc; ⟨o.slots, up c o c4 c3 c0 c1 q⟩) (fun c o _ q n' => by rw [upd_ne (Nat.ne_of_lt (Heap.lt_size q))]; exact n')
        (fun c o hc q => let ⟨c4, c3, c0, c1⟩ := inch c hc; ⟨o, up c o c4 c3 c0 c1 q⟩) (fun c us q => by rw [upd_ne (ne_of_none q hnew)]; exact q) (fun c o us q => by rw [upd_ne (ne_of_none q hnew)]; exact q)
        (fun c ps q => ⟨#[], by rw [upd_ne (ne_of_none q hnew), q]; simp⟩) (fun m hm => ?_) (fun c oc q => ?_) I.bare
      · rcases List.mem_cons.mp hc with z | hc
        · subst z; exact ⟨f4.2.2.2.1, f4.2.1, f4.2.2.2.2.1, f4.2.2.2.2.2⟩
        rcases List.mem_cons.mp hc with z | hc
        · subst z; exact ⟨f3.2.2.2.1, f3.2.1, f3.2.2.2.2.1, f3.2.2.2.2.2⟩
        rcases List.mem_cons.mp hc with z | hc
        · subst z; exact ⟨f0.2.2.2.1, f0.2.1, f0.2.2.2.2.1, f0.2.2.2.2.2⟩
        · rw [List.mem_singleton.mp hc]; exact ⟨f1.2.2.2.1, f1.2.1, f1.2.2.2.2.1, f1.2.2.2.2.2⟩
      · obtain ⟨o, es, ep, ho, r⟩ := hm
        exact ⟨o, es, ep, up _ o (Ne.symm f4.2.1) (Ne.symm f3.2.1) (Ne.symm f0.2.1) (Ne.symm f1.2.1) ho, r⟩
      · by_cases hcs : c = s.heap.objs.size
        · subst hcs
          rw [upd_same] at q; cases q
          exact ⟨(by show 2 ≤ sizeLine; decide), [u, v], .cons ru (.cons rv' .nil), ⟨_, tg, rfl, ⟨_, rfl⟩, rfl⟩⟩
        · rw [upd_ne hcs] at q
          refine (I.hok c oc q).stay (fun c' v' hc' q' => ?_) (fun c' z => by rw [upd_ne (ne_of_none z hnew)]; exact z) fun c' us z => by rw [upd_ne (ne_of_none z hnew)]; exact z
          obtain ⟨c4, c3, c0, c1⟩ : c' ≠ n + 4 ∧ c' ≠ n + 3 ∧ c' ≠ n + 0 ∧ c' ≠ n + 1 := by
            rcases hc' with z | z
            · subst z; exact ne _ _ q
            · exact ne _ _ z
          exact up c' v' c4 c3 c0 c1 q'
    have iter : ∀ {it t : Addr} {j : Nat}, it ≠ n + 4 → h'.IsTupleIter it t j → g.IsTupleIter it t j := fun hne p => Tn.tupIter_at p fun o q => sg.extBut _ _ hne q
    refine ⟨.ref s.heap.objs.size, _, I1, rfl, ⟨s.heap.objs.size, x, y, hnew, rfl, fun us e => by rw [ha] at e; cases e; exact hx, fun us e => by rw [hb] at e; cases e; exact hy, rfl⟩,
      ⟨zg, up _ _ (Tn.nz 2 4) (Tn.nz 2 3) (Tn.nz 2 0) (Tn.nz 2 1) hTI, ⟨u, v, sg.extBut _ _ (Tn.nz 3 4) o'⟩, iter (Tn.nz 0 4) i1, Tn.tupIter_atL i2 fun o q => sg.extBut _ _ (Tn.nz 1 4) q⟩, fun c hc => ?_⟩
    have hcn : c ≠ s.heap.objs.size := by
      rcases List.mem_cons.mp hc with z | hc
      · subst z; exact Nat.ne_of_lt zlt
      rcases List.mem_cons.mp hc with z | hc
      · subst z; exact Nat.ne_of_lt (Heap.lt_size hTI)
      rcases List.mem_cons.mp hc with z | hc
      · subst z; exact Nat.ne_of_lt (Heap.lt_size hTO)
      rcases List.mem_cons.mp hc with z | hc
      · subst z; exact Nat.ne_of_lt (let ⟨_, e, _⟩ := h1; Heap.lt_size e)
      · rw [List.mem_singleton.mp hc]; exact Nat.ne_of_lt (let ⟨_, e, _⟩ := h2; Heap.lt_size e)
    rw [upd_ne hcn]
    exact (hf c hc).1
  done := by
    intro X hP hw hK hc i pins s σ H E I hf st hg
    subst hP hw hK
    obtain ⟨xs, ys, ha, hb, hl⟩ := hg
    obtain ⟨its, rv, p1, _⟩ := I.tuple (SqT.of (K := X.K) ha)
    obtain ⟨hz, hTI, _, h1, h2⟩ := st
    have hlen := rv.length
    have f4 := hf (n + 4) (by simp)
    have f0 := hf (n + 0) (by simp)
    have ea4 : a ≠ n + 4 := fun q => by rw [q, f4.1] at ha; cases ha
    refine Tn.nextZ_end (I.ok.hd hc) ea4 hz hTI h1 (show s.heap.IsTuple a its.toArray from p1) (by simp; omega) fun h' kp => ⟨rfl, ?_⟩
    refine I.turned2 (t' := s.toks) (fun c o c4 c0 q => kp c o c4 c0 q) f4 f0
  self := fun _ i s Q E st h => wpAny_pyIter_zip st.1 h
def iZipL (ta : TA) : TI := fun σ H R => ta σ H fun vs H1 => ∃ a b xs ys, vs = [.ref a, .ref b] ∧ H1 a = some (.tup xs) ∧ H1 b = some (.lst ys) ∧ R (Itzl a b) H1
theorem pi_zipTL {e e' : Expr} {ta : TA} {p pos tp : Pos} {elts : List Expr} {k : Nat} (hg : Gl X "zip") (hm : X.mg "zip" = none) (ha : PA X [e, e'] ta) (hs : starEach [e, e'] X.env = (false, eval e X.env) :: starEach [e'] X.env := by rfl) (hpl : (backTo pos (starEach [e'] X.env)).any (·.1) = false := by rfl) :
    PI X (.Tuple elts k tp) (.Call (.Name "zip" p) [e, e'] [] pos) (iZipL ta) := by
  intro pins s σ H R I h
  refine Call_ (ld_blt I hg hm (by decide +kernel : bootBuiltins "zip" = some (.type "zip")) (PyProof.Rows.callWith_type1 (thn (ha pos pins s σ H _ I h) fun us s1 ⟨vs, H1, I1, r1, q1⟩ => ?_) hs hpl))
  obtain ⟨a, b, xs, ys, rfl, h1, h2, q⟩ := q1
  obtain ⟨u, u', rfl, rx, ry⟩ := r1.two
  cases rx
  cases ry
  obtain ⟨its, rv, p1, _⟩ := I1.tuple (SqT.of (K := X.K) h1)
  obtain ⟨jts, rw', p2, _⟩ := I1.list (SqL.of (K := X.K) h2)
  refine Tn.call_zipL (show s1.heap.IsTuple a its.toArray from p1) p2.isList fun g hz hTI hTO i1 i2 kp => ?_
  refine wpAny_pyIter_zip (s := { s1 with heap := g }) hz ?_
  have I2 : Inv X pins σ H1 { s1 with heap := g } := I1.kept (t' := s1.toks) kp
  have fr : ∀ b, s1.heap.objs.size ≤ b → FpOk X pins H1 b := fun b hb => I1.fpOk hb (I1.hok.fresh hb)
  refine ⟨_, [s1.heap.objs.size + 4, s1.heap.objs.size + 2, s1.heap.objs.size + 3, s1.heap.objs.size + 0, s1.heap.objs.size + 1], _, Itzl a b, H1, rfl, I2, turn_zipL a b s1.heap.objs.size, ⟨hz, hTI, ⟨_, _, hTO⟩, i1, i2⟩, fun c hc => fr c ?_, q⟩
  rcases List.mem_cons.mp hc with z | hc
  · rw [z]; exact Nat.le_add_right _ _
  rcases List.mem_cons.mp hc with z | hc
  · rw [z]; exact Nat.le_add_right _ _
  rcases List.mem_cons.mp hc with z | hc
  · rw [z]; exact Nat.le_add_right _ _
  rcases List.mem_cons.mp hc with z | hc
  · rw [z]; exact Nat.le_add_right _ _
  · rw [List.mem_singleton.mp hc]; exact Nat.le_add_right _ _
theorem for_zipL {a b : Addr} {xs ys : List V} {g : TG} {tb : TS} {D : Ends} {σ : St} {H : Hp} (hlen : xs.length = ys.length) (Pv : Nat → St → Hp → Prop) (h0 : Pv 0 σ H) (hl : ∀ i σ H, i ≤ xs.length → Pv i σ H → H a = some (.tup xs) ∧ H b = some (.lst ys))
    (hs : ∀ i x y σ H p, xs[i]? = some x → ys[i]? = some y → Pv i σ H → H p = none → g (.ref p) σ (upd H p (.tup [x, y])) fun σ2 H2 => tb { D with nx := Pv (i + 1), ct := Pv (i + 1), bk := D.nx } σ2 H2) (hd : ∀ σ H, Pv xs.length σ H → D.nx σ H) :
    ∃ W : Nat → Nat → St → Hp → Prop, (∃ m, W 0 m σ H) ∧ ∀ i m σ H, W i m σ H →
      ((Itzl a b).stop i H ∧ D.nx σ H) ∨ ((Itzl a b).go i H ∧ ∃ N : St → Hp → Prop, (∀ σ' H', N σ' H' → ∃ m', m' < m ∧ W (i + 1) m' σ' H') ∧ ∀ x H', (Itzl a b).yld i H x H' → g x σ H' fun σ2 H2 => tb { D with nx := N, ct := N, bk := D.nx } σ2 H2) := by
  refine ⟨fun i m σ H => m = xs.length - i ∧ i ≤ xs.length ∧ Pv i σ H, ⟨xs.length, by simp, Nat.zero_le _, h0⟩, ?_⟩
  rintro i m σ H ⟨rfl, hi, p⟩
  obtain ⟨q1, q2⟩ := hl i σ H hi p
  by_cases hlt : i < xs.length
  · refine .inr ⟨⟨xs, ys, xs[i], ys[i]'(by omega), q1, q2, by simp [hlt], by simp [show i < ys.length by omega]⟩, Pv (i + 1), fun σ' H' p' => ⟨xs.length - (i + 1), by omega, rfl, hlt, p'⟩, fun v H' z => ?_⟩
    obtain ⟨pp, x, y, hp, rfl, hx, hy, rfl⟩ := z
    exact hs i x y σ H pp (hx xs q1) (hy ys q2) p hp
  · have e : i = xs.length := by omega
    subst e
    exact .inl ⟨⟨xs, ys, q1, q2, rfl⟩, hd σ H p⟩
end
end L2
namespace Tn
open PySem L2
def shareL {α : Type} : List Nest → List α → List (List α)
  | [], _ => []
  | n :: r, xs => xs.take (words n) :: shareL r (xs.drop (words n))
theorem shareL_len {α : Type} : ∀ (ps : List Nest) (xs : List α), (shareL ps xs).length = ps.length
  | [], _ => rfl
  | n :: r, xs => by rw [shareL, List.length_cons, shareL_len r]; rfl
def closeK (k : Bool) (qs : List Nest) : List Nest := if qs.length < 2 then qs else [.knot k (qs.flatMap (partsOf k))]
mutual
def leftP : Nest → List Bool → List Nest
  | .word, bs => if bs.headD false then [.word] else []
  | .knot k ps, bs => closeK k (leftPs ps bs)
  | .bad, _ => []
def leftPs : List Nest → List Bool → List Nest
  | [], _ => []
  | n :: r, bs => leftP n (bs.take (words n)) ++ leftPs r (bs.drop (words n))
end
theorem rowsN_app : ∀ (A B : List Nest) (g : Int), rowsN (A ++ B) g = rowsN A g ++ rowsN B (g + ((rowsN A g).flatten.length : Int))
  | [], B, g => by simp [rowsN]
  | n :: A, B, g => by
    rw [List.cons_append, rowsN, rowsN_app A B, rowsN, List.cons_append, List.flatten_cons, List.length_append]
    congr 3
    omega
theorem leftP_le : ∀ (n : Nest) (bs : List Bool), (leftP n bs).length ≤ 1
  | .word, bs => by rw [leftP]; split <;> simp
  | .knot k ps, bs => by
    rw [leftP, closeK]
    split
    · omega
    · simp
  | .bad, _ => by simp [leftP]
theorem joinL_valid {k : Bool} : ∀ {qs : List Nest}, (∀ q ∈ qs, valid none q = true) → validL k (qs.flatMap (partsOf k)) = true ∧ wordsL (qs.flatMap (partsOf k)) = wordsL qs
  | [], _ => by simp [validL, wordsL]
  | q :: r, h => by
    have h1 := parts_valid (k := k) (h q List.mem_cons_self)
    have h2 := joinL_valid (k := k) (qs := r) fun x hx => h x (List.mem_cons_of_mem _ hx)
    rw [List.flatMap_cons, validL_app, wordsL_app, h1.1, h2.1, h1.2, h2.2]
    exact ⟨rfl, rfl⟩
theorem closeK_valid {k : Bool} {qs : List Nest} (h : ∀ q ∈ qs, valid none q = true) : (∀ q ∈ closeK k qs, valid none q = true) ∧ wordsL (closeK k qs) = wordsL qs := by
  unfold closeK
  split
  · exact ⟨h, rfl⟩
  · have := joinL_valid (k := k) h
    refine ⟨fun q hq => ?_, ?_⟩
    · rw [List.mem_singleton.mp hq]
      simp [valid, this.1]
    · simp only [wordsL, words, this.2]
      omega
mutual
theorem leftP_valid : ∀ (n : Nest) (o : Option Bool) (bs : List Bool), valid o n = true → bs.length = words n → (∀ q ∈ leftP n bs, valid none q = true) ∧ wordsL (leftP n bs) = bs.count true
  | .word, _, bs, _, hl => by
    rw [words] at hl
    match bs, hl with
    | [b], _ => cases b <;> simp [leftP, valid, wordsL, words]
  | .knot k ps, o, bs, hv, hl => by
    have hvp : validL k ps = true := by simp only [valid, Bool.and_eq_true] at hv; exact hv.2
    have h := leftPs_valid ps k bs hvp (by rw [hl, words])
    have h2 := closeK_valid (k := k) h.1
    rw [leftP]
    exact ⟨h2.1, by rw [h2.2, h.2]⟩
  | .bad, _, _, hv, _ => by simp [valid] at hv
theorem leftPs_valid : ∀ (ps : List Nest) (k : Bool) (bs : List Bool), validL k ps = true → bs.length = wordsL ps → (∀ q ∈ leftPs ps bs, valid none q = true) ∧ wordsL (leftPs ps bs) = bs.count true
  | [], _, bs, _, hl => by
    rw [wordsL] at hl
    rw [List.length_eq_zero_iff.mp hl]
    simp [leftPs, wordsL]
  | n :: r, k, bs, hv, hl => by
    simp only [validL, Bool.and_eq_true] at hv
    rw [wordsL] at hl
    have h1 := leftP_valid n (some k) (bs.take (words n)) hv.1 (by rw [List.length_take]; omega)
    have h2 := leftPs_valid r k (bs.drop (words n)) hv.2 (by rw [List.length_drop]; omega)
    rw [leftPs]
    refine ⟨fun q hq => ?_, ?_⟩
    · rcases List.mem_append.mp hq with h | h
      · exact h1.1 q h
      · exact h2.1 q h
    · rw [wordsL_app, h1.2, h2.2, ← List.count_append, List.take_append_drop]
end
theorem parts_row {k : Bool} (q : Nest) (g : Int) : (seenB k (rowsN (partsOf k q) g)).flatten = rowN q g := by
  have one : (seenB k (rowsN [q] g)).flatten = rowN q g := by
    unfold seenB
    simp [rowsN]
  cases q with
  | knot k' ps =>
    unfold partsOf
    dsimp only
    split
    · rename_i h
      subst h
      rw [row_seen]
    · exact one
  | word => exact one
  | bad => exact one
theorem seenB_len (k : Bool) (rs : List (List Int)) : (seenB k rs).flatten.length = rs.flatten.length := by
  unfold seenB
  split
  · rfl
  · exact (flat_rev_perm rs).length_eq
theorem seenB_app (k : Bool) (a b : List (List Int)) : (seenB k (a ++ b)).flatten = if k then (seenB k a).flatten ++ (seenB k b).flatten else (seenB k b).flatten ++ (seenB k a).flatten := by
  cases k <;> simp [seenB]
theorem join_rows {k : Bool} : ∀ (qs : List Nest) (g : Int), (seenB k (rowsN (qs.flatMap (partsOf k)) g)).flatten = (seenB k (rowsN qs g)).flatten
  | [], g => rfl
  | q :: r, g => by
    have hl : ((rowsN (partsOf k q) g).flatten.length : Int) = ((rowN q g).length : Int) := by rw [← seenB_len k, parts_row]
    rw [List.flatMap_cons, rowsN_app, seenB_app, parts_row, hl, join_rows r, show rowsN (q :: r) g = rowsN [q] g ++ rowsN r (g + ((rowN q g).length : Int)) by simp [rowsN], seenB_app]
    have : (seenB k (rowsN [q] g)).flatten = rowN q g := by unfold seenB; simp [rowsN]
    rw [this]
theorem closeK_rows {k : Bool} (qs : List Nest) (g : Int) : (rowsN (closeK k qs) g).flatten = (seenB k (rowsN qs g)).flatten := by
  unfold closeK
  split
  · rename_i h
    match qs, h with
    | [], _ => simp [rowsN, seenB]
    | [q], _ => unfold seenB; simp [rowsN]
  · simp only [rowsN, List.flatten_cons, List.flatten_nil, List.append_nil]
    rw [row_seen, join_rows]
def keepB (f : Int) (bs : List Bool) (w : Int) : Bool := (bs[(w - f).toNat]?).getD false
def newN (f g : Int) (bs : List Bool) (w : Int) : Int := g + ((bs.take (w - f).toNat).count true : Int)
def keepF (f g : Int) (bs : List Bool) (l : List Int) : List Int := (l.filter (keepB f bs)).map (newN f g bs)
theorem keepF_app (f g : Int) (bs : List Bool) (a b : List Int) : keepF f g bs (a ++ b) = keepF f g bs a ++ keepF f g bs b := by
  unfold keepF; rw [List.filter_append, List.map_append]
theorem keepF_head {f g : Int} {bs : List Bool} {m : Nat} {l : List Int} (h : ∀ w ∈ l, f ≤ w ∧ w < f + (m : Int)) : keepF f g bs l = keepF f g (bs.take m) l := by
  induction l with
  | nil => rfl
  | cons w l ih =>
    have hw := h w List.mem_cons_self
    have ih := ih fun x hx => h x (List.mem_cons_of_mem _ hx)
    have e1 : keepB f bs w = keepB f (bs.take m) w := by
      unfold keepB
      rw [List.getElem?_take_of_lt (by omega)]
    have e2 : newN f g bs w = newN f g (bs.take m) w := by
      unfold newN
      rw [List.take_take, Nat.min_eq_left (by omega)]
    show keepF f g bs ([w] ++ l) = keepF f g (bs.take m) ([w] ++ l)
    rw [keepF_app, keepF_app, ih]
    congr 1
    unfold keepF
    simp only [List.filter_cons, List.filter_nil, e1]
    split <;> simp [e2]
theorem keepF_tail {f g : Int} {bs : List Bool} {m : Nat} {l : List Int} (hm : m ≤ bs.length) (h : ∀ w ∈ l, f + (m : Int) ≤ w) : keepF f g bs l = keepF (f + (m : Int)) (g + ((bs.take m).count true : Int)) (bs.drop m) l := by
  induction l with
  | nil => rfl
  | cons w l ih =>
    have hw := h w List.mem_cons_self
    have ih := ih fun x hx => h x (List.mem_cons_of_mem _ hx)
    have e1 : keepB f bs w = keepB (f + (m : Int)) (bs.drop m) w := by
      unfold keepB
      rw [List.getElem?_drop]
      congr 2
      omega
    have e2 : newN f g bs w = newN (f + (m : Int)) (g + ((bs.take m).count true : Int)) (bs.drop m) w := by
      unfold newN
      have : (w - f).toNat = m + (w - (f + (m : Int))).toNat := by omega
      rw [this, List.take_add, List.count_append]
      omega
    show keepF f g bs ([w] ++ l) = keepF (f + (m : Int)) (g + ((bs.take m).count true : Int)) (bs.drop m) ([w] ++ l)
    rw [keepF_app, keepF_app, ih]
    congr 1
    unfold keepF
    simp only [List.filter_cons, List.filter_nil, e1]
    split <;> simp [e2]
theorem rows_mem {ps : List Nest} {k : Bool} {f w : Int} (hv : validL k ps = true) (h : w ∈ (rowsN ps f).flatten) : f ≤ w ∧ w < f + (wordsL ps : Int) := by
  have := (rows_perm ps k f hv).mem_iff.mp h
  unfold fromTo upto at this
  simp only [List.mem_map, List.mem_range] at this
  obtain ⟨z, ⟨i, hi, rfl⟩, rfl⟩ := this
  omega
mutual
theorem left_rows : ∀ (n : Nest) (o : Option Bool) (bs : List Bool) (f g : Int), valid o n = true → bs.length = words n → (rowsN (leftP n bs) g).flatten = keepF f g bs (rowN n f)
  | .word, _, bs, f, g, _, hl => by
    rw [words] at hl
    match bs, hl with
    | [b], _ => cases b <;> simp [leftP, rowsN, rowN, keepF, keepB, newN]
  | .knot k ps, o, bs, f, g, hv, hl => by
    have hvp : validL k ps = true := by simp only [valid, Bool.and_eq_true] at hv; exact hv.2
    rw [leftP, closeK_rows, row_seen]
    exact left_rowsL ps k k bs f g hvp (by rw [hl, words])
  | .bad, _, _, _, _, hv, _ => by simp [valid] at hv
theorem left_rowsL : ∀ (ps : List Nest) (k b : Bool) (bs : List Bool) (f g : Int), validL k ps = true → bs.length = wordsL ps → (seenB b (rowsN (leftPs ps bs) g)).flatten = keepF f g bs (seenB b (rowsN ps f)).flatten
  | [], _, b, _, _, _, _, _ => by cases b <;> rfl
  | n :: r, k, b, bs, f, g, hv, hl => by
    simp only [validL, Bool.and_eq_true] at hv
    rw [wordsL] at hl
    have hb1 : (bs.take (words n)).length = words n := by rw [List.length_take]; omega
    have h1 := left_rows n (some k) (bs.take (words n)) f g hv.1 hb1
    have hln : (rowN n f).length = words n := row_len f hv.1
    have h2 := left_rowsL r k b (bs.drop (words n)) (f + (words n : Int)) (g + ((bs.take (words n)).count true : Int)) hv.2 (by rw [List.length_drop]; omega)
    have hc : ((rowsN (leftP n (bs.take (words n))) g).flatten.length : Int) = ((bs.take (words n)).count true : Int) := by
      have hq := leftP_valid n (some k) (bs.take (words n)) hv.1 hb1
      rw [← hq.2]
      have hle := leftP_le n (bs.take (words n))
      match hz : leftP n (bs.take (words n)), hle with
      | [], _ => simp [rowsN, wordsL]
      | [q], _ =>
        have := hq.1 q (by rw [hz]; exact List.mem_cons_self)
        simp [rowsN, wordsL, row_len g this]
    have hA : (seenB b (rowsN (leftP n (bs.take (words n))) g)).flatten = (rowsN (leftP n (bs.take (words n))) g).flatten := by
      have hle := leftP_le n (bs.take (words n))
      match leftP n (bs.take (words n)), hle with
      | [], _ => cases b <;> rfl
      | [q], _ => unfold seenB; simp [rowsN]
    rw [leftPs, rowsN_app, seenB_app, hc, h2, hA, h1, show rowsN (n :: r) f = rowsN [n] f ++ rowsN r (f + ((rowN n f).length : Int)) by simp [rowsN], seenB_app, hln]
    have hone : (seenB b (rowsN [n] f)).flatten = rowN n f := by unfold seenB; simp [rowsN]
    rw [hone]
    have e1 : keepF f g bs (rowN n f) = keepF f g (bs.take (words n)) (rowN n f) := keepF_head fun w hw => row_mem hv.1 hw
    have e2 : keepF f g bs (seenB b (rowsN r (f + (words n : Int)))).flatten = keepF (f + (words n : Int)) (g + ((bs.take (words n)).count true : Int)) (bs.drop (words n)) (seenB b (rowsN r (f + (words n : Int)))).flatten := by
      refine keepF_tail (by omega) fun w hw => ?_
      have : w ∈ (rowsN r (f + (words n : Int))).flatten := by
        unfold seenB at hw
        split at hw
        · exact hw
        · exact (flat_rev_perm _).mem_iff.mp hw
      exact (rows_mem hv.2 this).1
    cases b
    · simp only [Bool.false_eq_true, if_false]
      rw [keepF_app, e1, e2]
    · simp only [if_true]
      rw [keepF_app, e1, e2]
end
def marks (ws : List Int) (m : Nat) : List Bool := (List.range m).map fun (i : Nat) => decide ((i : Int) ∈ ws)
theorem marks_len (ws : List Int) (m : Nat) : (marks ws m).length = m := by simp [marks]
theorem rank_succ : ∀ {ws : List Int}, ws.Nodup → ∀ j : Int, rank ws (j + 1) = rank ws j + (if j ∈ ws then 1 else 0)
  | [], _, j => by simp [rank]
  | a :: l, nd, j => by
    have hn := List.nodup_cons.mp nd
    have ih := rank_succ hn.2 j
    unfold rank at ih ⊢
    simp only [List.filter_cons, List.mem_cons]
    by_cases h1 : a < j
    · have h2 : a < j + 1 := by omega
      have h3 : j ≠ a := by omega
      simp only [h1, h2, h3, decide_true, if_true, List.length_cons, false_or]
      omega
    · by_cases h2 : a = j
      · subst h2
        have h3 : a < a + 1 := by omega
        rw [if_neg hn.1] at ih
        simp only [h1, h3, decide_true, decide_false, if_true, List.length_cons, true_or]
        simp only [Bool.false_eq_true, if_false]
        omega
      · have h3 : ¬ a < j + 1 := by omega
        have h4 : j ≠ a := fun z => h2 z.symm
        simp only [h1, h3, h4, decide_false, false_or]
        simp only [Bool.false_eq_true, if_false]
        omega
theorem marks_count {ws : List Int} {m : Nat} (nd : ws.Nodup) (h0 : ∀ w ∈ ws, 0 ≤ w) : ∀ {j : Nat}, j ≤ m → ((marks ws m).take j).count true = rank ws (j : Int)
  | 0, _ => by
    unfold rank
    rw [List.filter_eq_nil_iff.mpr (fun v hv => by have := h0 v hv; simp; omega)]
    rfl
  | j + 1, hj => by
    have ih := marks_count (m := m) nd h0 (j := j) (by omega)
    have e : (marks ws m)[j]? = some (decide ((j : Int) ∈ ws)) := by
      unfold marks
      rw [List.getElem?_map, List.getElem?_range (by omega)]
      rfl
    rw [List.take_succ, e, List.count_append, ih, show ((j + 1 : Nat) : Int) = (j : Int) + 1 by omega, rank_succ nd]
    by_cases h : (j : Int) ∈ ws
    · simp [h]
    · simp [h]
theorem rank_all {ws : List Int} {m : Int} (h : ∀ w ∈ ws, w < m) : rank ws m = ws.length := by
  unfold rank
  rw [List.filter_eq_self.mpr (fun v hv => by simp [h v hv])]
theorem left_nest {n : Nest} {ws : List Int} (hv : valid none n = true) (nd : ws.Nodup) (hw : ∀ w ∈ ws, 0 ≤ w ∧ w < (words n : Int)) (hne : ws ≠ []) : ∃ m, leftP n (marks ws (words n)) = [m] ∧ valid none m = true ∧ words m = ws.length ∧ rowN m 0 = leftF (rowN n 0) ws := by
  have hl := marks_len ws (words n)
  have h1 := leftP_valid n none (marks ws (words n)) hv hl
  have h2 := leftP_le n (marks ws (words n))
  have h3 := left_rows n none (marks ws (words n)) 0 0 hv hl
  have hc : (marks ws (words n)).count true = ws.length := by
    have := marks_count (m := words n) nd (fun w h => (hw w h).1) (j := words n) (Nat.le_refl _)
    rw [List.take_of_length_le (by omega), rank_all fun w h => (hw w h).2] at this
    exact this
  have hpos : 1 ≤ ws.length := by
    cases ws with
    | nil => exact absurd rfl hne
    | cons _ _ => simp
  match hz : leftP n (marks ws (words n)), h2 with
  | [], _ =>
    rw [hz, hc, wordsL] at h1
    omega
  | [m], _ =>
    rw [hz] at h1 h3
    refine ⟨m, rfl, h1.1 m List.mem_cons_self, by have := h1.2; rw [hc] at this; simpa [wordsL] using this, ?_⟩
    have e : (rowsN [m] 0).flatten = rowN m 0 := by simp [rowsN]
    rw [← e, h3]
    unfold keepF leftF
    have mem : ∀ w ∈ rowN n 0, keepB 0 (marks ws (words n)) w = decide (w ∈ ws) ∧ newN 0 0 (marks ws (words n)) w = (rank ws w : Int) := fun w hm => by
      have hb := row_mem hv hm
      obtain ⟨j, rfl⟩ : ∃ j : Nat, w = (j : Int) := ⟨w.toNat, by omega⟩
      constructor
      · unfold keepB marks
        rw [show ((j : Int) - 0).toNat = j by omega, List.getElem?_map, List.getElem?_range (by omega)]
        rfl
      · unfold newN
        rw [show ((j : Int) - 0).toNat = j by omega, marks_count nd (fun w h => (hw w h).1) (by omega)]
        omega
    rw [List.filter_congr fun w hm => (mem w hm).1]
    apply List.map_congr_left
    intro w hm
    exact (mem w ((List.mem_filter.mp hm).1)).2
end Tn
namespace Tn
open PySem L2
def VLs (H : Hp) (rs : List Addr) (xss : List (List V)) : Prop := Paired (fun r xs => H r = some (.lst xs)) rs xss
theorem VLs.len {H : Hp} : ∀ {rs : List Addr} {xss : List (List V)}, VLs H rs xss → rs.length = xss.length
  | _, _, .nil => rfl
  | _, _, .cons _ t => congrArg (· + 1) (VLs.len t)
theorem VLs.get {H : Hp} : ∀ {rs : List Addr} {xss : List (List V)} {i : Nat} {p : Addr}, VLs H rs xss → rs[i]? = some p → ∃ xs, xss[i]? = some xs ∧ H p = some (.lst xs)
  | _, _, _, _, .nil, e => by simp at e
  | _, _, 0, _, .cons h _, e => by simp at e; subst e; exact ⟨_, rfl, h⟩
  | _, _, i + 1, p, .cons _ t, e => by
    obtain ⟨x, h1, h2⟩ := VLs.get (i := i) (p := p) t (by simpa using e)
    exact ⟨x, by simpa using h1, h2⟩
theorem VLs.mono {H H' : Hp} (s : Same H H') : ∀ {rs : List Addr} {xss : List (List V)}, VLs H rs xss → VLs H' rs xss
  | _, _, .nil => .nil
  | _, _, .cons h t => .cons (s _ _ h) (VLs.mono s t)
theorem VLs.upd {H : Hp} {l : Addr} {o : HO} : ∀ {rs : List Addr} {xss : List (List V)}, l ∉ rs → VLs H rs xss → VLs (L2.upd H l o) rs xss
  | _, _, _, .nil => .nil
  | p :: _, _ :: _, hn, .cons h t => .cons (by rw [upd_ne (fun z => hn (by rw [← z]; exact List.mem_cons_self))]; exact h) (VLs.upd (fun z => hn (List.mem_cons_of_mem _ z)) t)
theorem VLs.app {H : Hp} : ∀ {rs qs : List Addr} {xss yss : List (List V)}, VLs H rs xss → VLs H qs yss → VLs H (rs ++ qs) (xss ++ yss)
  | _, _, _, _, .nil, h => h
  | _, _, _, _, .cons a t, h => .cons a (VLs.app t h)
def ofK (k : Bool) : Nest → Bool
  | .knot k' _ => decide (k' = k)
  | _ => false
def spOfKind (K : PySem.W.Frag) : Sp := fun vs H Q _ => ∃ (v : V) (n : Nest) (o : Option Bool) (k : Bool), vs = [v, .str (kS k)] ∧ NestAt K H n v ∧ valid o n = true ∧ Q (.bl (ofK k n)) H
def spShared (K : PySem.W.Frag) (d : Nat) : Sp := fun vs H Q _ => ∃ (a l : Addr) (k : Bool) (ps : List Nest) (xs : List V), vs = [.ref a, .ref l] ∧ NestAt K H (.knot k ps) (.ref a) ∧ validL k ps = true ∧ depthL ps < d ∧ SqL K H l xs ∧ xs.length ≤ 1000 ∧ wordsL ps ≤ xs.length ∧
  ∀ (sh : Addr) (rs : List Addr) (H' : Hp), H sh = none → H' sh = some (.lst (rs.map V.ref)) → VLs H' rs (shareL ps xs) → Same H H' → Q (.ref sh) H'
def spKnotOf (K : PySem.W.Frag) : Sp := fun vs H Q _ => ∃ (l : Addr) (k : Bool) (ns : List Nest) (us : List V), vs = [.str (kS k), .ref l] ∧ H l = some (.lst us) ∧ NestsAt K H ns us ∧ (∀ n ∈ ns, valid none n = true) ∧ wordsL ns ≤ 900 ∧ 2 ≤ ns.length ∧
  ∀ (v : V) (H' : Hp), NestAt K H' (.knot k (ns.flatMap (partsOf k))) v → Same H H' → Q v H'
def spLeftP (K : PySem.W.Frag) (d : Nat) : Sp := fun vs H Q _ => ∃ (v : V) (l : Addr) (n : Nest) (o : Option Bool) (bs : List Bool), vs = [v, .ref l] ∧ NestAt K H n v ∧ valid o n = true ∧ depthN n < d ∧ words n ≤ 60 ∧ SqL K H l (bs.map V.bl) ∧ bs.length = words n ∧
  ∀ (p : Addr) (us : List V) (H' : Hp), H p = none → H' p = some (.lst us) → NestsAt K H' (leftP n bs) us → Same H H' → Q (.ref p) H'
def ahead (ps : List Nest) (i : Nat) : Nat := wordsL (ps.take i)
theorem ahead_succ {ps : List Nest} {i : Nat} {n : Nest} (h : ps[i]? = some n) : ahead ps (i + 1) = ahead ps i + words n := by
  unfold ahead
  rw [List.take_succ, h, wordsL_app]
  simp [wordsL]
theorem ahead_le (ps : List Nest) (i : Nat) : ahead ps i ≤ wordsL ps := by
  have := wordsL_app (ps.take i) (ps.drop i)
  rw [List.take_append_drop] at this
  unfold ahead
  omega
theorem shareL_get {α : Type} : ∀ {ps : List Nest} {xs : List α} {i : Nat} {n : Nest}, ps[i]? = some n → (shareL ps xs)[i]? = some ((xs.drop (ahead ps i)).take (words n))
  | [], _, _, _, h => by simp at h
  | m :: r, xs, 0, n, h => by simp at h; subst h; simp [shareL, ahead, wordsL]
  | m :: r, xs, i + 1, n, h => by
    have := shareL_get (ps := r) (xs := xs.drop (words m)) (i := i) (n := n) (by simpa using h)
    simp only [shareL, List.getElem?_cons_succ, this]
    rw [List.drop_drop, show words m + ahead r i = ahead (m :: r) (i + 1) by unfold ahead; simp only [List.take_succ_cons, wordsL]]
theorem shareL_take {α : Type} {ps : List Nest} {xs : List α} {i : Nat} {n : Nest} (h : ps[i]? = some n) : (shareL ps xs).take (i + 1) = (shareL ps xs).take i ++ [(xs.drop (ahead ps i)).take (words n)] := by
  rw [List.take_succ, shareL_get h]
  rfl
theorem leftPs_len : ∀ (ps : List Nest) (bs : List Bool), (leftPs ps bs).length ≤ ps.length
  | [], _ => by simp [leftPs]
  | n :: r, bs => by
    have h1 := leftP_le n (bs.take (words n))
    have h2 := leftPs_len r (bs.drop (words n))
    rw [leftPs, List.length_append, List.length_cons]
    omega
theorem leftPs_take {ps : List Nest} {bs : List Bool} {i : Nat} {n : Nest} (h : ps[i]? = some n) : leftPs (ps.take (i + 1)) bs = leftPs (ps.take i) bs ++ leftP n ((bs.drop (ahead ps i)).take (words n)) := by
  have app : ∀ (A B : List Nest) (bs : List Bool), leftPs (A ++ B) bs = leftPs A bs ++ leftPs B (bs.drop (wordsL A)) := fun A => by
    induction A with
    | nil => intro B bs; simp [leftPs, wordsL]
    | cons a A ih =>
      intro B bs
      rw [List.cons_append, leftPs, ih, leftPs, List.append_assoc, List.drop_drop, wordsL]
  rw [List.take_succ, h, app]
  simp [leftPs, ahead]
end Tn
namespace L2
open PySem PySem.Spec PyProof PyProof.Rows
section
variable {X : Cx}
def rIndex : V → List V → Hp → VK → Prop := fun x vs H Q => ∃ (l : Addr) (ns : List Int) (z : Int) (j : Nat), x = .ref l ∧ vs = [.int z] ∧ H l = some (.lst (ns.map V.int)) ∧ ns[j]? = some z ∧ (∀ m, m < j → ns[m]? ≠ some z) ∧ ns.length < 1000000 ∧ Q (.int (j : Int)) H
def isZ (z : Int) : Value → Bool
  | .int i _ => decide (i = z)
  | _ => false
theorem mt_index : MtM X "list.index" rIndex := by
  intro pins s σ H x vs v us Q I rx rv h
  obtain ⟨l, ns, z, j, rfl, rfl, hH, hj, hno, hz, q⟩ := h
  cases rx
  obtain ⟨u, rfl, ⟨t, rfl⟩⟩ := vals1 rv
  obtain ⟨zz, its, n, r, hl, e⟩ := I.lstM hH
  have hjl : j < ns.length := (List.getElem?_eq_some_iff.mp hj).1
  rw [List.length_map] at hl
  have it : ∀ (m : Nat) (hm : m < its.length), ∃ tk, its[m] = .int (ns[m]'(by omega)) tk := fun m hm => by
    obtain ⟨w', e1, ⟨tk, rw'⟩⟩ := r.get (i := m) (x := V.int (ns[m]'(by omega))) (by simp)
    exact ⟨tk, by have := (List.getElem?_eq_some_iff.mp e1).2; rw [this]; exact rw'⟩
  have m := SeqAt.list_indexAt l its.toArray n none #[] (.int z t) (isZ z) j (by simp; omega) (by omega) (by
      obtain ⟨tk, hk⟩ := it j (by omega)
      have : its.toArray[j] = its[j] := by simp
      rw [this, hk]
      have := (List.getElem?_eq_some_iff.mp hj).2
      simp [isZ, this]) (fun m hm h => by
      have hml : m < its.length := by simpa using hm
      obtain ⟨tk, hk⟩ := it m hml
      have : its.toArray[m] = its[m] := by simp
      rw [this, hk]
      simp only [isZ, decide_eq_false_iff_not]
      intro y
      exact hno m h (by rw [List.getElem?_eq_getElem (by omega), y]))
  have a2 := F.args_list_index_2 (.ref l) (.int z t)
  refine @call_meets _ _ _ _ _ _ _ _ _ _ _ ?S _ F.slot_list_index ⟨_, e, rfl⟩ F.entry_list_index a2 ?m ?h
  case m => assumption
  refine ⟨e, fun y hy => ?_, ⟨.int j, H, I.kept (t' := s.toks + 1) (fun _ _ e => e), ⟨_, rfl⟩, q⟩⟩
  obtain ⟨m, hm, rfl⟩ := List.getElem_of_mem (by simpa using hy : y ∈ its)
  obtain ⟨tk, hk⟩ := it m hm
  rw [hk]
  have h1 : SeqAt.EqAt X.A.in1 s (Value.int (ns[m]'(by omega)) tk) (Value.int z t) (eqV (V.int (ns[m]'(by omega))) (V.int z)) := eqAt_V ⟨tk, rfl⟩ ⟨t, rfl⟩ rfl rfl
  have h2 : eqV (V.int (ns[m]'(by omega))) (V.int z) = isZ z (.int (ns[m]'(by omega)) tk) := by simp only [eqV, isZ]; rfl
  rw [h2] at h1
  exact h1
end
end L2
namespace Tn
open PySem L2
theorem get_app {X Y : List Int} {i : Nat} {w : Int} (h : (X ++ Y)[i]? = some w) : (i < X.length ∧ X[i]? = some w ∧ w ∈ X) ∨ (X.length ≤ i ∧ Y[i - X.length]? = some w ∧ w ∈ Y) := by
  by_cases hi : i < X.length
  · rw [List.getElem?_append_left hi] at h
    exact .inl ⟨hi, h, List.mem_of_getElem? h⟩
  · rw [List.getElem?_append_right (by omega)] at h
    exact .inr ⟨by omega, h, List.mem_of_getElem? h⟩
theorem bar_split {k : Bool} {X Y : List Int} (ha : Apart k X Y) (h : HasBar (X ++ Y)) : HasBar X ∨ HasBar Y := by
  obtain ⟨i, j, l, m, w, x, y, z, hij, hjl, hlm, hi, hj, hl, hm, hb⟩ := h
  obtain ⟨K, hK, ap⟩ : ∃ K : Int, (K = 1 ∨ K = 2) ∧ ∀ a ∈ X, ∀ b ∈ Y, (K = 1 ∧ a < b) ∨ (K = 2 ∧ b < a) := by
    cases k
    · refine ⟨2, .inr rfl, fun a h1 b h2 => .inr ⟨rfl, ?_⟩⟩
      have := ha a h1 b h2
      unfold Rk at this
      simpa using this
    · refine ⟨1, .inl rfl, fun a h1 b h2 => .inl ⟨rfl, ?_⟩⟩
      have := ha a h1 b h2
      unfold Rk at this
      simpa using this
  rcases get_app hi with ⟨i1, i2, i3⟩ | ⟨i1, i2, i3⟩
  · rcases get_app hm with ⟨m1, m2, m3⟩ | ⟨m1, m2, m3⟩
    · rcases get_app hj with ⟨j1, j2, j3⟩ | ⟨j1, j2, j3⟩
      · rcases get_app hl with ⟨l1, l2, l3⟩ | ⟨l1, l2, l3⟩
        · exact .inl ⟨i, j, l, m, w, x, y, z, hij, hjl, hlm, i2, j2, l2, m2, hb⟩
        · omega
      · omega
    · exfalso
      have a1 := ap w i3 z m3
      rcases get_app hj with ⟨j1, j2, j3⟩ | ⟨j1, j2, j3⟩
      · have a2 := ap x j3 z m3
        rcases get_app hl with ⟨l1, l2, l3⟩ | ⟨l1, l2, l3⟩
        · have a3 := ap y l3 z m3
          unfold Bar1 Bar2 at hb
          omega
        · have a3 := ap w i3 y l3
          have a4 := ap x j3 y l3
          unfold Bar1 Bar2 at hb
          omega
      · have a2 := ap w i3 x j3
        rcases get_app hl with ⟨l1, l2, l3⟩ | ⟨l1, l2, l3⟩
        · omega
        · have a3 := ap w i3 y l3
          unfold Bar1 Bar2 at hb
          omega
  · rcases get_app hj with ⟨j1, j2, j3⟩ | ⟨j1, j2, j3⟩
    · omega
    · rcases get_app hl with ⟨l1, l2, l3⟩ | ⟨l1, l2, l3⟩
      · omega
      · rcases get_app hm with ⟨m1, m2, m3⟩ | ⟨m1, m2, m3⟩
        · omega
        · exact .inr ⟨i - X.length, j - X.length, l - X.length, m - X.length, w, x, y, z, by omega, by omega, by omega, i2, j2, l2, m2, hb⟩
theorem bar_nil : ¬ HasBar [] := fun ⟨_, _, _, _, _, _, _, _, _, _, _, h, _⟩ => by simp at h
theorem bar_blocks {k : Bool} : ∀ {bs : List (List Int)}, bs.Pairwise (Apart k) → HasBar bs.flatten → ∃ b ∈ bs, HasBar b
  | [], _, h => absurd h bar_nil
  | b :: r, hp, h => by
    obtain ⟨h1, h2⟩ := List.pairwise_cons.mp hp
    rw [List.flatten_cons] at h
    have ha : Apart k b r.flatten := fun a ha c hc => by
      obtain ⟨y, hy, hcy⟩ := List.mem_flatten.mp hc
      exact h1 y hy a ha c hcy
    rcases bar_split ha h with z | z
    · exact ⟨b, List.mem_cons_self, z⟩
    · obtain ⟨x, hx, hb⟩ := bar_blocks h2 z
      exact ⟨x, List.mem_cons_of_mem _ hx, hb⟩
mutual
theorem row_no_bar : ∀ (n : Nest) (o : Option Bool) (f : Int), valid o n = true → fit n = true → ¬ HasBar (rowN n f)
  | .word, _, f, _, _ => by
    rw [rowN]
    rintro ⟨i, j, l, m, w, x, y, z, hij, hjl, hlm, hi, hj, hl, hm, _⟩
    have := (List.getElem?_eq_some_iff.mp hm).1
    simp at this
    omega
  | .knot k ps, o, f, hv, hf => by
    have hvl : validL k ps = true := by simp only [valid, Bool.and_eq_true] at hv; exact hv.2
    rw [fit, Bool.and_eq_true, decide_eq_true_eq] at hf
    rw [row_seen]
    intro hb
    obtain ⟨b, hbm, hbb⟩ := bar_blocks (blocks_of f hvl hf.2 hf.1).ap hb
    exact rows_no_bar ps k f hvl hf.2 b (mem_seen.mp hbm) hbb
  | .bad, _, _, hv, _ => by simp [valid] at hv
theorem rows_no_bar : ∀ (ps : List Nest) (k : Bool) (f : Int), validL k ps = true → fitL ps = true → ∀ b ∈ rowsN ps f, ¬ HasBar b
  | [], _, _, _, _, b, hb => by rw [rowsN] at hb; cases hb
  | n :: r, k, f, hv, hf, b, hb => by
    simp only [validL, Bool.and_eq_true] at hv
    rw [fitL, Bool.and_eq_true] at hf
    rw [rowsN] at hb
    rcases List.mem_cons.mp hb with rfl | hb
    · exact row_no_bar n (some k) f hv.1 hf.1
    · exact rows_no_bar r k _ hv.2 hf.2 b hb
end
theorem flat_stretch : ∀ (ps : List Nat) (a n : Nat) (ord : List Int), ps.Pairwise (· < ·) → (∀ p ∈ ps, a ≤ p ∧ p ≤ n) → a ≤ n → ((a :: ps).zip (ps ++ [n])).flatMap (fun ab => (ord.drop ab.1).take (ab.2 - ab.1)) = (ord.drop a).take (n - a)
  | [], a, n, ord, _, _, _ => by simp
  | p :: ps, a, n, ord, hp, hm, hn => by
    obtain ⟨h1, h2⟩ := List.pairwise_cons.mp hp
    have hpm := hm p List.mem_cons_self
    have ih := flat_stretch ps p n ord h2 (fun q hq => ⟨Nat.le_of_lt (h1 q hq), (hm q (List.mem_cons_of_mem _ hq)).2⟩) hpm.2
    rw [List.cons_append, List.zip_cons_cons, List.flatMap_cons, ih]
    show (ord.drop a).take (p - a) ++ (ord.drop p).take (n - p) = _
    have e : ord.drop p = (ord.drop a).drop (p - a) := by rw [List.drop_drop]; congr 1; omega
    rw [e, ← List.take_add, show p - a + (n - p) = n - a by omega]
theorem stretch_flat {ord : List Int} {ps : List Nat} (h : Asc ord.length ps) : (stretchF ord ps).flatten = ord := by
  have := flat_stretch ps 0 ord.length ord h.1 (fun p hp => ⟨Nat.zero_le _, Nat.le_of_lt (h.2 p hp).2⟩) (Nat.zero_le _)
  unfold stretchF firstsF behindsF
  rw [← List.flatMap_def, this]
  simp
theorem rank_bar {ord ws : List Int} (hs : ∀ w ∈ ws, w ∈ ord) {b : List Int} (hb : b = ord.filter fun w => decide (w ∈ ws)) (h : HasBar (leftF ord ws)) : HasBar b := by
  obtain ⟨i, j, l, m, w, x, y, z, hij, hjl, hlm, hi, hj, hl, hm, hb'⟩ := h
  unfold leftF at hi hj hl hm
  rw [← hb] at hi hj hl hm
  have get : ∀ {q : Nat} {v : Int}, (b.map fun w => (rank ws w : Int))[q]? = some v → ∃ u, b[q]? = some u ∧ v = (rank ws u : Int) ∧ u ∈ ws := fun {q v} h => by
    rw [List.getElem?_map] at h
    cases hu : b[q]? with
    | none => rw [hu] at h; cases h
    | some u =>
      rw [hu] at h
      have := List.mem_of_getElem? hu
      rw [hb] at this
      exact ⟨u, rfl, (Option.some.inj h).symm, by simpa using (List.mem_filter.mp this).2⟩
  obtain ⟨w', hw', rfl, mw⟩ := get hi
  obtain ⟨x', hx', rfl, mx⟩ := get hj
  obtain ⟨y', hy', rfl, my⟩ := get hl
  obtain ⟨z', hz', rfl, mz⟩ := get hm
  have lt : ∀ {u v : Int}, u ∈ ws → v ∈ ws → (rank ws u : Int) < (rank ws v : Int) → u < v := fun {u v} hu hv h => by
    rcases Int.lt_or_le u v with c | c
    · exact c
    · exfalso
      rcases Int.lt_or_eq_of_le c with c | c
      · have := rank_mono hv c
        omega
      · subst c
        omega
  refine ⟨i, j, l, m, w', x', y', z', hij, hjl, hlm, hw', hx', hy', hz', ?_⟩
  rcases hb' with ⟨h1, h2, h3⟩ | ⟨h1, h2, h3⟩
  · exact .inl ⟨lt my mw h1, lt mw mz h2, lt mz mx h3⟩
  · exact .inr ⟨lt mx mz h1, lt mz mw h2, lt mw my h3⟩
theorem bar_mid {X B Y : List Int} (h : HasBar B) : HasBar (X ++ B ++ Y) := by
  obtain ⟨i, j, l, m, w, x, y, z, hij, hjl, hlm, hi, hj, hl, hm, hb⟩ := h
  have get : ∀ {q : Nat} {v : Int}, B[q]? = some v → (X ++ B ++ Y)[X.length + q]? = some v := fun {q v} h => by
    have := (List.getElem?_eq_some_iff.mp h).1
    rw [List.getElem?_append_left (by rw [List.length_append]; omega), List.getElem?_append_right (by omega), show X.length + q - X.length = q by omega]
    exact h
  exact ⟨X.length + i, X.length + j, X.length + l, X.length + m, w, x, y, z, by omega, by omega, by omega, get hi, get hj, get hl, get hm, hb⟩
theorem block_in {bs : List (List Int)} {b : List Int} (h : b ∈ bs) : ∃ X Y, bs.flatten = X ++ b ++ Y := by
  obtain ⟨X, Y, e⟩ := List.append_of_mem h
  exact ⟨X.flatten, Y.flatten, by rw [e, List.flatten_append, List.flatten_cons]; simp⟩
theorem allO_none_ex {α : Type} : ∀ {l : List (Option α)}, allO l = none → none ∈ l
  | [], h => by cases h
  | none :: _, _ => List.mem_cons_self
  | some a :: r, h => by
    have h : (allO r).map (a :: ·) = none := h
    cases hr : allO r with
    | none => exact List.mem_cons_of_mem _ (allO_none_ex hr)
    | some ms => rw [hr] at h; cases h
theorem no_cut_bar {ord : List Int} (hO : IsOrd ord) (h2 : 2 ≤ ord.length) (hc : (cutF ord).2 = []) : HasBar ord := by
  have hr : risF ord = [] := by
    unfold cutF at hc
    split at hc
    · assumption
    · exact hc
  have hf : falF ord = [] := by
    unfold cutF at hc
    rw [if_pos hr] at hc
    split at hc
    · assumption
    · exact hc
  have noR : ∀ q, 0 < q → q < ord.length → ¬ upB ord q = true := fun q h1 h2 hu => by
    have : q ∈ risF ord := by
      unfold risF places
      exact List.mem_filter.mpr ⟨List.mem_map.mpr ⟨q - 1, List.mem_range.mpr (by omega), by omega⟩, hu⟩
    rw [hr] at this
    cases this
  have noF : ∀ q, 0 < q → q < ord.length → ¬ dnB ord q = true := fun q h1 h2 hu => by
    have : q ∈ falF ord := by
      unfold falF places
      exact List.mem_filter.mpr ⟨List.mem_map.mpr ⟨q - 1, List.mem_range.mpr (by omega), by omega⟩, hu⟩
    rw [hf] at this
    cases this
  rcases cut_or_bar (ord.length - 2) ord (by omega) hO.nodup with ⟨q, h1, h3, h4⟩ | ⟨q, h1, h3, h4⟩ | h
  · exact absurd ((up_iff hO (by omega)).mpr h4) (noR q h1 h3)
  · exact absurd ((dn_iff hO (by omega)).mpr h4) (noF q h1 h3)
  · exact h
theorem barred_bar : ∀ (d : Nat) (ord : List Int), IsOrd ord → 1 ≤ ord.length → ord.length ≤ d → nestF d ord = none → HasBar ord
  | 0, ord, _, h1, h2, _ => by omega
  | d + 1, ord, hO, h1, h2, h => by
    rw [nestF] at h
    split at h
    · cases h
    · rename_i hl
      split at h
      · rename_i hc
        exact no_cut_bar hO (by omega) hc
      · rename_i hc
        have hn : allO ((stretchF ord (cutF ord).2).map fun b => nestF d (leftF ord b)) = none := by
          cases hx : allO ((stretchF ord (cutF ord).2).map fun b => nestF d (leftF ord b)) with
          | none => rfl
          | some ns => rw [hx] at h; cases h
        obtain ⟨b, hb, hbn⟩ := List.mem_map.mp (allO_none_ex hn)
        obtain ⟨i, hi⟩ := List.getElem?_of_mem hb
        obtain ⟨hne, hsub, hlt⟩ := stretch_ok (cut_asc ord) h1 hc hi
        have hnd := hO.nodup.sublist hsub
        have hmem : ∀ w ∈ b, w ∈ ord := fun w hw => hsub.mem hw
        have hlo := left_ord hO hnd hmem
        have hpos := List.length_pos_iff.mpr hne
        have hbar := barred_bar d (leftF ord b) hlo.1 (by omega) (by omega) hbn
        obtain ⟨X, Y, e⟩ := block_in hb
        rw [stretch_flat (cut_asc ord)] at e
        have hfb := filter_block hO.nodup e
        have := rank_bar hmem hfb.symm hbar
        rw [e]
        exact bar_mid this
end Tn
namespace Tn
open PySem L2
theorem allO_get {α : Type} : ∀ {l : List (Option α)} {ns : List α}, allO l = some ns → l = ns.map some
  | [], ns, h => by
    have h : some [] = some ns := h
    cases h
    rfl
  | none :: _, ns, h => by cases h
  | some b :: r, ns, h => by
    have h : (allO r).map (b :: ·) = some ns := h
    cases hr : allO r with
    | none => rw [hr] at h; cases h
    | some ms =>
      rw [hr] at h
      cases h
      rw [allO_get hr]
      rfl
theorem fromTo_len (f : Int) (n : Nat) : (fromTo f n).length = n := by simp [fromTo, upto]
theorem mem_fromTo {f w : Int} {n : Nat} : w ∈ fromTo f n ↔ f ≤ w ∧ w < f + (n : Int) := by
  unfold fromTo
  rw [List.mem_map]
  constructor
  · rintro ⟨z, hz, rfl⟩
    have := mem_upto.mp hz
    omega
  · intro h
    exact ⟨w - f, mem_upto.mpr (by omega), by omega⟩
theorem split_perm {f : Int} {c R : List Int} {N : Nat} (h : (c ++ R).Perm (fromTo f N)) (ha : ∀ a ∈ c, ∀ b ∈ R, a < b) : c.Perm (fromTo f c.length) ∧ R.Perm (fromTo (f + (c.length : Int)) R.length) := by
  have hN : c.length + R.length = N := by rw [← List.length_append, h.length_eq, fromTo_len]
  have nd : (c ++ R).Nodup := h.nodup_iff.mpr ((fromTo_strict f N).imp fun h => by omega)
  obtain ⟨ndc, ndR, _⟩ := List.nodup_append.mp nd
  have rng : ∀ w ∈ c ++ R, f ≤ w ∧ w < f + (N : Int) := fun w hw => mem_fromTo.mp (h.mem_iff.mp hw)
  have hc : c.Perm (fromTo f c.length) := by
    refine perm_of_sub ndc (fun a hac => ?_) (by rw [fromTo_len]; exact Nat.le_refl _)
    have h1 := rng a (List.mem_append_left _ hac)
    refine mem_fromTo.mpr ⟨h1.1, ?_⟩
    apply Int.lt_of_not_ge
    intro hge
    have := nd_len (m := fromTo (a + 1) (f + (N : Int) - (a + 1)).toNat) ndR fun b hb => by
      have h2 := rng b (List.mem_append_right _ hb)
      have h3 := ha a hac b hb
      exact mem_fromTo.mpr (by omega)
    rw [fromTo_len] at this
    omega
  refine ⟨hc, perm_of_sub ndR (fun b hb => ?_) (by rw [fromTo_len]; exact Nat.le_refl _)⟩
  have h2 := rng b (List.mem_append_right _ hb)
  refine mem_fromTo.mpr ⟨?_, by omega⟩
  apply Int.le_of_not_gt
  intro hlt
  have : b ∈ c := hc.mem_iff.mpr (mem_fromTo.mpr (by omega))
  have := ha b this b hb
  omega
theorem left_shift {ord X Y c : List Int} {f : Int} (h : ord.Nodup) (e : ord = X ++ c ++ Y) (hp : c.Perm (fromTo f c.length)) : c = (leftF ord c).map fun w => w + f := by
  unfold leftF
  rw [filter_block h e, List.map_map]
  conv => lhs; rw [← List.map_id c]
  apply List.map_congr_left
  intro w hw
  have hm := mem_fromTo.mp (hp.mem_iff.mp hw)
  have := strict_rank (fromTo_strict f c.length) (fromTo_get f (i := (w - f).toNat) (by omega))
  rw [show f + (((w - f).toNat : Nat) : Int) = w by omega] at this
  show w = (rank c w : Int) + f
  rw [rank_perm hp, this]
  omega
theorem rows_told {ord : List Int} (hO : ord.Nodup) : ∀ (ns : List Nest) (cs : List (List Int)) (f : Int) (N : Nat), ns.length = cs.length → (∀ (i : Nat) (n : Nest) (c : List Int), ns[i]? = some n → cs[i]? = some c → rowN n 0 = leftF ord c) → (∀ c ∈ cs, ∃ X Y, ord = X ++ c ++ Y) →
    cs.Pairwise (Apart true) → cs.flatten.Perm (fromTo f N) → rowsN ns f = cs
  | [], [], _, _, _, _, _, _, _ => by rw [rowsN]
  | [], _ :: _, _, _, h, _, _, _, _ => by simp at h
  | _ :: _, [], _, _, h, _, _, _, _ => by simp at h
  | n :: ns, c :: cs, f, N, hl, hr, hin, hp, hf => by
    obtain ⟨h1, h2⟩ := List.pairwise_cons.mp hp
    rw [List.flatten_cons] at hf
    have hs := split_perm hf fun a ha b hb => by
      obtain ⟨y, hy, hby⟩ := List.mem_flatten.mp hb
      have := h1 y hy a ha b hby
      unfold Rk at this
      simpa using this
    obtain ⟨X, Y, e⟩ := hin c List.mem_cons_self
    have hc : rowN n f = c := by
      have h0 := hr 0 n c rfl rfl
      have h3 := left_shift hO e hs.1
      rw [← h0] at h3
      have h4 := row_shift n 0 f
      rw [Int.zero_add] at h4
      rw [h4]
      exact h3.symm
    rw [rowsN, hc, rows_told hO ns cs (f + (c.length : Int)) cs.flatten.length (by simpa using hl) (fun i m d hm hd => hr (i + 1) m d (by simpa using hm) (by simpa using hd)) (fun d hd => hin d (List.mem_cons_of_mem _ hd)) h2 hs.2]
theorem pairs_of_splits {k : Bool} : ∀ {bs : List (List Int)}, (∀ X Y, bs = X ++ Y → X ≠ [] → Y ≠ [] → Apart k X.flatten Y.flatten) → bs.Pairwise (Apart k)
  | [], _ => .nil
  | b :: r, h => by
    refine List.pairwise_cons.mpr ⟨fun y hy a ha c hc => ?_, pairs_of_splits fun X Y e hX hY a ha c hc => ?_⟩
    · refine h [b] r rfl (by simp) (fun z => by rw [z] at hy; cases hy) a (by simpa using ha) c (List.mem_flatten.mpr ⟨y, hy, hc⟩)
    · exact h (b :: X) Y (by rw [e]; rfl) (by simp) hY a (by rw [List.flatten_cons]; exact List.mem_append_right _ ha) c hc
theorem bord_zip : ∀ (ps : List Nat) (a n : Nat) (ord : List Int), ps.Pairwise (· < ·) → (∀ p ∈ ps, a < p ∧ p < n) → a ≤ n → n ≤ ord.length → bordF a (((a :: ps).zip (ps ++ [n])).map fun ab => (ord.drop ab.1).take (ab.2 - ab.1)) = ps
  | [], a, n, ord, _, _, _, _ => rfl
  | p :: ps, a, n, ord, hp, hm, hn, hl => by
    obtain ⟨h1, h2⟩ := List.pairwise_cons.mp hp
    have hpm := hm p List.mem_cons_self
    have ih := bord_zip ps p n ord h2 (fun q hq => ⟨h1 q hq, (hm q (List.mem_cons_of_mem _ hq)).2⟩) (Nat.le_of_lt hpm.2) hl
    have hlen : ((ord.drop a).take (p - a)).length = p - a := by
      rw [List.length_take, List.length_drop]
      omega
    rw [List.cons_append, List.zip_cons_cons, List.map_cons]
    cases hz : ((p :: ps).zip (ps ++ [n])).map fun ab => (ord.drop ab.1).take (ab.2 - ab.1) with
    | nil =>
      have := congrArg List.length hz
      simp at this
    | cons c r =>
      rw [hz] at ih
      rw [bordF]
      show (a + ((ord.drop a).take (p - a)).length) :: bordF (a + ((ord.drop a).take (p - a)).length) (c :: r) = _
      rw [hlen, show a + (p - a) = p by omega, ih]
theorem bord_stretch {ord : List Int} {ps : List Nat} (h : Asc ord.length ps) : bordF 0 (stretchF ord ps) = ps :=
  bord_zip ps 0 ord.length ord h.1 (fun p hp => ⟨(h.2 p hp).1, (h.2 p hp).2⟩) (Nat.zero_le _) (Nat.le_refl _)
theorem cut_told {ord : List Int} (hO : IsOrd ord) (hne : (cutF ord).2 ≠ []) : ∃ k, (cutF ord).1 = kS k ∧ ∀ p, 0 < p → p < ord.length → (p ∈ (cutF ord).2 ↔ Apart k (ord.take p) (ord.drop p)) := by
  have mem : ∀ (q : Nat → Bool) (p : Nat), 0 < p → p < ord.length → (p ∈ places ord q (ord.length - 1) ↔ q p = true) := fun q p h1 h2 => by
    unfold places
    rw [List.mem_filter]
    exact ⟨fun h => h.2, fun h => ⟨List.mem_map.mpr ⟨p - 1, List.mem_range.mpr (by omega), by omega⟩, h⟩⟩
  by_cases hr : risF ord = []
  · by_cases hf : falF ord = []
    · unfold cutF at hne
      rw [if_pos hr, if_pos hf] at hne
      exact absurd rfl hne
    · have e : cutF ord = (kS false, falF ord) := by unfold cutF; rw [if_pos hr, if_neg hf]; rfl
      refine ⟨false, by rw [e], fun p h1 h2 => ?_⟩
      rw [e]
      exact (mem (dnB ord) p h1 h2).trans (fall_apart hO (by omega))
  · have e : cutF ord = (kS true, risF ord) := by unfold cutF; rw [if_neg hr]; rfl
    refine ⟨true, by rw [e], fun p h1 h2 => ?_⟩
    rw [e]
    exact (mem (upB ord) p h1 h2).trans (rise_apart hO (by omega))
theorem told_blocks {ord : List Int} (hO : IsOrd ord) (h1 : 1 ≤ ord.length) (hne : (cutF ord).2 ≠ []) : ∃ k, (cutF ord).1 = kS k ∧ Blocks k (stretchF ord (cutF ord).2) ∧ ∀ X b1 b2 Y, stretchF ord (cutF ord).2 = X ++ (b1 ++ b2) :: Y → b1 ≠ [] → b2 ≠ [] → ¬ Apart k b1 b2 := by
  obtain ⟨k, hk, hc⟩ := cut_told hO hne
  have hA := cut_asc ord
  have hfl := stretch_flat hA
  have hbd := bord_stretch hA
  have hbne : ∀ x ∈ stretchF ord (cutF ord).2, x ≠ [] := fun x hx => by
    obtain ⟨i, hi⟩ := List.getElem?_of_mem hx
    exact (stretch_ok hA h1 hne hi).1
  have hB : Blocks k (stretchF ord (cutF ord).2) := by
    refine ⟨by rw [stretch_len]; have := List.length_pos_iff.mpr hne; omega, hbne, pairs_of_splits fun X Y e hX hY => ?_⟩
    have hp : X.flatten.length ∈ (cutF ord).2 := by
      rw [← hbd]
      exact (bord_mem _ 0 _).mpr ⟨X, Y, e, hX, hY, by omega⟩
    have hr := hA.2 _ hp
    have := (hc _ hr.1 hr.2).mp hp
    have ef : ord = X.flatten ++ Y.flatten := by rw [← hfl, e, List.flatten_append]
    rw [ef] at this
    rwa [List.take_left, List.drop_left] at this
  refine ⟨k, hk, hB, fun X b1 b2 Y e n1 n2 ha => ?_⟩
  have ef : ord = (X.flatten ++ b1) ++ (b2 ++ Y.flatten) := by rw [← hfl, e, List.flatten_append, List.flatten_cons]; simp
  have l1 := List.length_pos_iff.mpr n1
  have l2 := List.length_pos_iff.mpr n2
  have hlen : ord.length = X.flatten.length + b1.length + (b2.length + Y.flatten.length) := by
    conv => lhs; rw [ef]
    simp only [List.length_append]
  have hap := hB.ap
  rw [e, List.pairwise_append, List.pairwise_cons] at hap
  have hcut : X.flatten.length + b1.length ∈ (cutF ord).2 := by
    refine (hc _ (by omega) (by omega)).mpr ?_
    rw [show X.flatten.length + b1.length = (X.flatten ++ b1).length by rw [List.length_append]]
    rw [ef, List.take_left, List.drop_left]
    intro a haa c hcc
    rcases List.mem_append.mp haa with haa | haa
    · obtain ⟨x, hx, hax⟩ := List.mem_flatten.mp haa
      rcases List.mem_append.mp hcc with hcc | hcc
      · exact hap.2.2 x hx _ List.mem_cons_self a hax c (List.mem_append_right _ hcc)
      · obtain ⟨y, hy, hcy⟩ := List.mem_flatten.mp hcc
        exact hap.2.2 x hx y (List.mem_cons_of_mem _ hy) a hax c hcy
    · rcases List.mem_append.mp hcc with hcc | hcc
      · exact ha a haa c hcc
      · obtain ⟨y, hy, hcy⟩ := List.mem_flatten.mp hcc
        exact hap.2.1.1 y hy a (List.mem_append_left _ haa) c hcy
  rw [← hbd, e] at hcut
  have key : ∀ (X : List (List Int)) (a : Nat), a + X.flatten.length + b1.length ∉ bordF a (X ++ (b1 ++ b2) :: Y) := by
    intro X
    induction X with
    | nil =>
      intro a hm
      cases Y with
      | nil => cases hm
      | cons y r =>
        have hm : a + 0 + b1.length ∈ (a + (b1 ++ b2).length) :: bordF (a + (b1 ++ b2).length) (y :: r) := hm
        rw [List.length_append] at hm
        rcases List.mem_cons.mp hm with z | z
        · omega
        · obtain ⟨X', Y', _, _, _, z⟩ := (bord_mem _ _ _).mp z
          omega
    | cons x X ih =>
      intro a hm
      have e2 : (x :: X) ++ (b1 ++ b2) :: Y = x :: (X ++ (b1 ++ b2) :: Y) := rfl
      rw [e2] at hm
      cases hX : X ++ (b1 ++ b2) :: Y with
      | nil => simp at hX
      | cons c r =>
        rw [hX, bordF] at hm
        rcases List.mem_cons.mp hm with z | z
        · rw [List.flatten_cons, List.length_append] at z
          omega
        · rw [← hX] at z
          refine ih (a + x.length) ?_
          rw [List.flatten_cons, List.length_append] at z
          rw [show a + x.length + X.flatten.length + b1.length = a + (x.length + X.flatten.length) + b1.length by omega]
          exact z
  have := key X 0
  rw [Nat.zero_add] at this
  exact this hcut
theorem validL_of : ∀ {ps : List Nest} {k : Bool}, (∀ n ∈ ps, valid (some k) n = true) → validL k ps = true
  | [], _, _ => rfl
  | n :: r, k, h => by
    rw [validL, h n List.mem_cons_self, validL_of fun m hm => h m (List.mem_cons_of_mem _ hm)]
    rfl
theorem fitL_of : ∀ {ps : List Nest}, (∀ n ∈ ps, fit n = true) → fitL ps = true
  | [], _ => rfl
  | n :: r, h => by
    rw [fitL, h n List.mem_cons_self, fitL_of fun m hm => h m (List.mem_cons_of_mem _ hm)]
    rfl
theorem nest_told : ∀ (d : Nat) (ord : List Int) (n : Nest), IsOrd ord → 1 ≤ ord.length → ord.length ≤ d → nestF d ord = some n → rowN n 0 = ord ∧ valid none n = true ∧ fit n = true
  | 0, ord, n, _, h1, h2, _ => by omega
  | d + 1, ord, n, hO, h1, h2, h => by
    rw [nestF] at h
    split at h
    · rename_i hl
      cases h
      obtain ⟨w, rfl⟩ : ∃ w, ord = [w] := by
        match ord, hl with
        | [w], _ => exact ⟨w, rfl⟩
      have := (hO.mem (w := w)).mp List.mem_cons_self
      have e : w = 0 := by simp at this; omega
      rw [e, rowN]
      exact ⟨rfl, rfl, rfl⟩
    · rename_i hl
      split at h
      · cases h
      · rename_i hc
        cases hx : allO ((stretchF ord (cutF ord).2).map fun b => nestF d (leftF ord b)) with
        | none => rw [hx] at h; cases h
        | some ns =>
          rw [hx] at h
          have h : some (if (cutF ord).1 = kS false then Nest.knot false ns.reverse else Nest.knot true ns) = some n := h
          have hall := allO_get hx
          obtain ⟨k, hk, hB, hinn⟩ := told_blocks hO h1 hc
          have hA := cut_asc ord
          have hfl := stretch_flat hA
          have hlen : ns.length = (stretchF ord (cutF ord).2).length := by
            have := congrArg List.length hall
            simpa using this.symm
          have part : ∀ (i : Nat) (m : Nest) (c : List Int), ns[i]? = some m → (stretchF ord (cutF ord).2)[i]? = some c → rowN m 0 = leftF ord c ∧ valid none m = true ∧ fit m = true := fun i m c hm hc' => by
            obtain ⟨hne, hsub, hlt⟩ := stretch_ok hA h1 hc hc'
            have hlo := left_ord hO (hO.nodup.sublist hsub) fun w hw => hsub.mem hw
            have hpos := List.length_pos_iff.mpr hne
            have e : nestF d (leftF ord c) = some m := by
              have := congrArg (fun l => l[i]?) hall
              simp only [List.getElem?_map, hc', hm] at this
              exact Option.some.inj this
            exact nest_told d (leftF ord c) m hlo.1 (by omega) (by omega) e
          have fnd : ∀ m ∈ ns, ∃ (i : Nat) (c : List Int), ns[i]? = some m ∧ (stretchF ord (cutF ord).2)[i]? = some c := fun m hm => by
            obtain ⟨i, hi⟩ := List.getElem?_of_mem hm
            have := (List.getElem?_eq_some_iff.mp hi).1
            exact ⟨i, _, hi, List.getElem?_eq_getElem (by omega)⟩
          have hfit : ∀ m ∈ ns, fit m = true := fun m hm => by
            obtain ⟨i, c, h3, h4⟩ := fnd m hm
            exact (part i m c h3 h4).2.2
          have hval : ∀ m ∈ ns, valid (some k) m = true := fun m hm => by
            obtain ⟨i, c, h3, h4⟩ := fnd m hm
            obtain ⟨p1, p2, p3⟩ := part i m c h3 h4
            refine valid_some p2 fun qs e => ?_
            subst e
            have hvq : validL k qs = true := by simp only [valid, Bool.and_eq_true] at p2; exact p2.2
            rw [fit, Bool.and_eq_true, decide_eq_true_eq] at p3
            have hcm := List.mem_of_getElem? h4
            obtain ⟨X, Y, eXY⟩ := List.append_of_mem hcm
            have eo : ord = X.flatten ++ c ++ Y.flatten := by
              rw [← hfl]
              conv => lhs; rw [eXY]
              rw [List.flatten_append, List.flatten_cons]
              simp
            have hlf : leftF ord c = c.map fun w => (rank c w : Int) := by
              unfold leftF
              rw [filter_block hO.nodup eo]
            have hBq := blocks_of (k := k) 0 hvq p3.2 p3.1
            rw [row_seen, hlf] at p1
            cases hbq : seenB k (rowsN qs 0) with
            | nil => have := hBq.two; rw [hbq] at this; simp at this
            | cons b0 r0 =>
              rw [hbq] at hBq p1
              rw [List.flatten_cons] at p1
              have hb0 := hBq.ne b0 List.mem_cons_self
              have hr0 : r0.flatten ≠ [] := fun z => by
                cases r0 with
                | nil => have := hBq.two; simp at this
                | cons y r =>
                  have := hBq.ne y (by simp)
                  rw [List.flatten_cons] at z
                  exact this (List.append_eq_nil_iff.mp z).1
              obtain ⟨c1, c2, ec, e1, e2⟩ := List.map_eq_append_iff.mp p1.symm
              refine hinn X c1 c2 Y (by rw [eXY, ec]) (fun z => hb0 (by rw [← e1, z]; rfl)) (fun z => hr0 (by rw [← e2, z]; rfl)) fun a ha b hb => ?_
              have hap := (List.pairwise_cons.mp hBq.ap).1
              have m1 : (rank c a : Int) ∈ b0 := by rw [← e1]; exact List.mem_map_of_mem ha
              have m2 : (rank c b : Int) ∈ r0.flatten := by rw [← e2]; exact List.mem_map_of_mem hb
              obtain ⟨y, hy, hby⟩ := List.mem_flatten.mp m2
              have hR := hap y hy _ m1 _ hby
              have ca : a ∈ c := by rw [ec]; exact List.mem_append_left _ ha
              have cb : b ∈ c := by rw [ec]; exact List.mem_append_right _ hb
              have lt : ∀ {u v : Int}, u ∈ c → v ∈ c → (rank c u : Int) < (rank c v : Int) → u < v := fun {u v} hu hv h => by
                rcases Int.lt_or_le u v with z | z
                · exact z
                · exfalso
                  rcases Int.lt_or_eq_of_le z with z | z
                  · have := rank_mono hv z
                    omega
                  · subst z
                    omega
              unfold Rk at hR ⊢
              cases k
              · simp at hR ⊢
                exact lt cb ca (by omega)
              · simp at hR ⊢
                exact lt ca cb (by omega)
          have hin : ∀ c ∈ stretchF ord (cutF ord).2, ∃ X Y, ord = X ++ c ++ Y := fun c hcm => by
            obtain ⟨X, Y, e⟩ := block_in hcm
            rw [hfl] at e
            exact ⟨X, Y, e⟩
          have hpo : ord.Perm (fromTo 0 ord.length) := by
            have := hO.perm
            unfold fromTo
            rw [show (fun z : Int => 0 + z) = id by funext z; exact Int.zero_add z, List.map_id]
            exact this
          have h2n : 2 ≤ ns.length := by rw [hlen]; exact hB.two
          cases k
          · rw [hk, if_pos rfl] at h
            cases h
            have hrows : rowsN ns.reverse 0 = (stretchF ord (cutF ord).2).reverse := by
              refine rows_told hO.nodup ns.reverse _ 0 ord.length (by simpa using hlen) (fun i m c hm hc' => ?_) (fun c hcm => hin c (by simpa using hcm)) ?_ ?_
              · have l1 := (List.getElem?_eq_some_iff.mp hm).1
                have l2 := (List.getElem?_eq_some_iff.mp hc').1
                rw [List.length_reverse] at l1 l2
                rw [List.getElem?_reverse l1] at hm
                rw [List.getElem?_reverse l2, ← hlen] at hc'
                exact (part _ m c hm hc').1
              · rw [List.pairwise_reverse]
                refine hB.ap.imp fun {x y} hxy a ha b hb => ?_
                have := hxy b hb a ha
                unfold Rk at *
                simpa using this
              · refine (flat_rev_perm _).trans ?_
                rw [hfl]
                exact hpo
            refine ⟨?_, ?_, ?_⟩
            · rw [rowN, hrows]
              show (stretchF ord (cutF ord).2).reverse.reverse.flatten = ord
              rw [List.reverse_reverse, hfl]
            · have := validL_of (ps := ns.reverse) (k := false) fun m hm => hval m (by simpa using hm)
              simp only [valid, this]
              rfl
            · rw [fit, decide_eq_true (by simpa using h2n), fitL_of fun m hm => hfit m (by simpa using hm)]
              rfl
          · rw [hk, if_neg (by decide +kernel)] at h
            cases h
            have hrows : rowsN ns 0 = stretchF ord (cutF ord).2 := by
              refine rows_told hO.nodup ns _ 0 ord.length hlen (fun i m c hm hc' => (part i m c hm hc').1) hin hB.ap ?_
              rw [hfl]
              exact hpo
            refine ⟨?_, ?_, ?_⟩
            · rw [rowN, hrows]
              exact hfl
            · have := validL_of (ps := ns) (k := true) hval
              simp only [valid, this]
              rfl
            · rw [fit, decide_eq_true h2n, fitL_of hfit]
              rfl
theorem nest_or_bar {d : Nat} {ord : List Int} (hO : IsOrd ord) (h1 : 1 ≤ ord.length) (h2 : ord.length ≤ d) : nestF d ord = none ↔ HasBar ord := by
  refine ⟨barred_bar d ord hO h1 h2, fun hb => ?_⟩
  cases hx : nestF d ord with
  | none => rfl
  | some n =>
    obtain ⟨e, hv, hf⟩ := nest_told d ord n hO h1 h2 hx
    exact absurd (by rw [e]; exact hb) (row_no_bar n none 0 hv hf)
end Tn
namespace L2
open PySem PySem.W PySem.Spec PyProof.Rows PySem.Calls
theorem bits_of {ns : List Int} (h : WData.layableAll [WData.list (ns.map WData.int)] = true) : ∀ z ∈ ns, Builtin.Int.intBits z ≤ 1048576 := by
  have h1 : WData.layable (WData.list (ns.map WData.int)) = true := by
    unfold WData.layableAll at h
    simpa using h
  have h2 : WData.weightAll (ns.map WData.int) ≤ 2 ^ 20 := by
    unfold WData.layable at h1
    simp only [Bool.and_eq_true, decide_eq_true_eq] at h1
    have := h1.2
    rw [WData.weight] at this
    exact this
  have e : (2 : Nat) ^ 20 = 1048576 := by decide
  rw [e] at h2
  clear h h1 e
  induction ns with
  | nil => intro z hz; cases hz
  | cons n r ih =>
    rw [List.map_cons, WData.weightAll, WData.weight] at h2
    intro z hz
    rcases List.mem_cons.mp hz with rfl | hz
    · unfold Builtin.Int.intBits
      split at h2 <;> split <;> omega
    · exact ih (by omega) z hz
theorem attach_callB {l : OpenLaw} {n : Nat} {q : Program} {loose : List Str} {XP : (Str → Option Value) → Heap → Prop} {YP : World → Heap → Prop} {d : DefRec}
    (hn : l.most = some n) (hdf : d.params.defaults = [])
    (call : ∀ (w : World) (s₀ s₁ : Shared) (mg mb : Str → Option Value) (fa : Addr) (o : Obj) (pm cd doc : Value) (a : Addr) (vs : List Value) (ns : List Int),
      Ground q loose [] XP w s₀ mg mb s₁.heap → YP w s₁.heap →
      s₁.heap.get? fa = some o → o.data = .func (docDef d.name d.params d.body d.scope pm cd doc) → s₁.heap.CodeRec cd d.name → mg d.name = some (.ref fa) →
      s₁.heap.get? a = some { cls := .type "list", data := .seq vs.toArray } → IntsAre vs ns → ns.length ≤ n → (∀ z ∈ ns, Builtin.Int.intBits z ≤ 1048576) → s₁.gens = #[] →
      codeAny (model l.prog w) callerA (.call (.ref fa) ⟨[.ref a], []⟩) (fun r s' => r = .ok (.ret (.bool true)) ∧ OldK s₁.heap s'.heap ∧ s'.os = s₁.os ∧ AllBare s'.gens) s₁) :
    WalkO q loose XP YP l.row.toRowW d [] (fun f vs => PySem.call f vs) := by
  intro w s₀ s₁ mg mb G Y fa o pm cd doc dV kV ho hd hcd hD hmg hg args vals as hpre hlay hrd hwl hlo
  obtain rfl : dV = .none := Dflts.none hD hdf
  obtain rfl : kV = .none := Dflts.noKw hD
  obtain ⟨a, vs, ns, rfl, rfl, hobj, hints, hlen⟩ := Att.script_of hn hpre hwl
  refine enter_call (codeAny_mono (call w s₀ s₁ mg mb fa o pm cd doc a vs ns G Y ho (fd_plain hd) hcd hmg hobj hints hlen (bits_of hlay) hg) fun r s' hq => ?_)
  obtain ⟨rfl, h2, h3, h4⟩ := hq
  exact ⟨.inl ⟨.bool true, .bool true, [], rfl, fun _ => rfl, .bool true, Att.post_true l _, fun _ => ⟨List.Pairwise.nil, fun _ hm => (nomatch hm)⟩⟩, h2, h3, h4⟩
end L2
namespace Tn
open PySem L2
end Tn
namespace L2
open PySem PySem.W PySem.Spec PyProof.Rows PySem.Calls
theorem among_snoc {pos pos' : Pos} {c cv : Value} (l : List Value) (h : TriplesOk l) (e : codeAmong pos' (l ++ [rawInt pos.line, rawInt pos.col, c]) = some cv) : codeAmong pos' l = some cv ∨ cv = c := by
  fun_induction TriplesOk l with
  | case1 =>
    simp only [List.nil_append, codeAmong, rawInt] at e
    split at e
    · exact .inr (Option.some.inj e).symm
    · cases e
  | case2 a t b u x rest ih =>
    simp only [List.cons_append, codeAmong] at e ⊢
    split at e
    · rename_i hc
      rw [if_pos hc]; exact .inl e
    · rename_i hc
      rw [if_neg hc]; exact ih h e
  | case3 l h1 h2 => exact h.elim
section
variable {P : Program} {w : World} {H : Hp} {h h' : Heap} {p c : Addr} {q : Str} {ps fv : Array Value} {oc : Obj} {t : Tok} {pos : Pos}
theorem HOk.grow (ok : HOk P w H h) (hp : H p = some (.lam q)) (e : h.get? p = some (tabObj ps)) (hx : Heap.ExtBut p h h') (hc : h.objs.size ≤ c) (eo : h'.get? c = some oc) (d : oc.data = .fields fv) (d1 : fv[1]? = some (.str q t))
    (ht : h'.get? p = some (tabObj (ps ++ #[rawInt pos.line, rawInt pos.col, .ref c]))) : HOk P w (upd H c (.frz oc (.own c))) h' := fun b u eu => by
  have hn := ok.fresh hc
  have up : ∀ {a : Addr} {o : HO}, H a = some o → (upd H c (.frz oc (.own c))) a = some o := fun {a o} z => by rw [upd_ne (ne_of_none z hn)]; exact z
  by_cases hb : b = c
  · subst hb
    rw [upd_same] at eu
    cases eu
    exact ⟨eo, oc, eo⟩
  · rw [upd_ne hb] at eu
    by_cases hbp : b = p
    · subst hbp
      rw [hp] at eu
      cases eu
      obtain ⟨ps', e', tr, al⟩ := ok _ _ hp
      rw [e] at e'
      obtain rfl : ps = ps' := by have := Option.some.inj e'; injection this with _ _ h3; injection h3
      refine ⟨_, ht, ?_, fun pos' cv z => ?_⟩
      · rw [Array.toList_append]; exact TriplesOk_snoc _ _ _ _ tr
      · rw [Array.toList_append] at z
        rcases among_snoc _ tr z with z | rfl
        · obtain ⟨c', oc', fv', t', z1, z2, z3⟩ := al pos' cv z
          exact ⟨c', oc', fv', t', z1, up z2, z3⟩
        · exact ⟨c, oc, fv, t, rfl, upd_same, d, d1⟩
    · refine (ok b u eu).stay (fun x v hx' r => hx x v ?_ r) (fun _ z => up z) (fun _ _ z => up z) fun _ _ _ z => up z
      rcases hx' with rfl | hx'
      · exact hbp
      · rintro rfl
        rw [hp] at hx'; cases hx'
theorem Un.grow {fs ex : List Addr} {o : HO} (hp : H p = some (.lam q)) (hx : Heap.ExtBut p h h') (hc : h.objs.size ≤ c) (hn : H c = none) (ht : ∃ o', h'.get? p = some o') : Un fs ex H (upd H c o) h h' where
  keep := fun b u z n _ _ => hx b u (fun y => by rw [y, hp] at n; cases n) z
  slot := fun b u z n _ _ => ⟨u.slots, hx b u (fun y => by rw [y, hp] at n; cases n) z⟩
  free := fun b u z n _ => by rw [upd_ne (Nat.ne_of_lt (Nat.lt_of_lt_of_le (Heap.lt_size z) hc))]; exact n
  there := fun b u z _ => by
    by_cases hb : b = p
    · rw [hb]; exact ht
    · exact ⟨u, hx b u hb z⟩
  tups := fun b xs z => by rw [upd_ne (ne_of_none z hn)]; exact z
  frzs := fun b u xs z => by rw [upd_ne (ne_of_none z hn)]; exact z
  tbls := fun b ps z => ⟨#[], by rw [upd_ne (ne_of_none z hn), z]; simp⟩
end
def BmAt (mg : Str → Option Value) (base : Heap) : Prop := ∃ bm ob, mg "__builtins__" = some (.ref bm) ∧ bm ≠ builtinsNs ∧ base.get? bm = some ob ∧ ob.cls = .type "module" ∧ ob.dict = some builtinsNs ∧ ob.data = .plain
section
variable {X : Cx} {pins : List (Addr × Obj)} {σ : St} {H : Hp} {s : Shared} {c p : Addr} {q : Str} {params : Arguments} {body : Expr} {scope : Scope} {pos : Pos} {clos : List (Str × Addr)}
theorem lam_bm (hb : BmAt X.mg X.base) (I : Inv X pins σ H s) (hp : H p = some (.lam q)) : s.heap.BuiltinsAt X.mg p ∧ mainGlobals ≠ p := by
  obtain ⟨bm, ob, b1, b2, b3, b4, b5, b6⟩ := hb
  obtain ⟨og, es, ep, e, hd, _⟩ := I.mod.glob
  have hG := I.bs _ _ e
  have hB := I.bs _ _ b3
  refine ⟨⟨bm, ob, b1, b2, fun z => ?_, fun z => ?_, hB.1, b4, b5, b6⟩, fun z => ?_⟩
  · rw [z, e] at b3; cases b3; rw [hd] at b6; cases b6
  · rw [z, hp] at hB; cases hB.2
  · rw [z, hp] at hG; cases hG.2
abbrev lamO (qual : Str) (params : Arguments) (body : Expr) (scope : Scope) (clos : List (Str × Addr)) (pm : Value) (c' : Addr) (ctv : Value) : Obj := kla_obj "<lambda>" qual params body scope clos pm c' ctv
theorem eval_lam {M : Model} {A : Around} {E : Value → Shared → Prop} {Q : Value → Shared → Prop} (I : Inv X pins σ H s) (hb : BmAt X.mg X.base) (hcode : X.env.code = .ref c) (C : CodeHd X.base c p) (hp : H p = some (.lam q)) (hq : X.env.qual ++ "<lambda>" = q)
    (hdef : defaultsOf params X.env = ([], [])) (hcl : closureFor scope X.env = pure clos)
    (h : ∀ (f c' : Addr) (ctv : Value) (oc : Obj) (fv : Array Value) (t : Tok) (H' : Hp) (s' : Shared), Inv X ((f, lamO q params body scope clos ((X.mg "__name__").getD .none) c' ctv) :: pins) σ H' s' →
      H' c' = some (.frz oc (.own c')) → oc.data = .fields fv → fv[1]? = some (.str q t) → X.s₀.heap.objs.size ≤ f → (∀ b o, H b = some o → H' b = some o) → Q (.ref f) s') :
    wpAny M A (eval (.Lambda params body scope pos) X.env) Q E s := by
  obtain ⟨hB, hG⟩ := lam_bm hb I hp
  obtain ⟨ps, e, tr, al⟩ := I.hok _ _ hp
  have hC : CodeHd s.heap c p := C.keeps I.bk
  obtain ⟨og, es, ep, eg, rg⟩ := I.mod.glob
  have hg : s.heap.Ns mainGlobals X.mg := ⟨og, es, ep, I.bk _ _ eg, rg⟩
  refine kla_eval hdef ?_
  rw [hq]
  have fin : ∀ {h' : Heap} {H' : Hp} {tk : Nat} {c' : Addr} {ctv : Value} {oc : Obj} {fv : Array Value} {t : Tok}, Inv X pins σ H' { s with heap := h', toks := tk } → H' c' = some (.frz oc (.own c')) → oc.data = .fields fv → fv[1]? = some (.str q t) → (∀ b o, H b = some o → H' b = some o) →
      Q (.ref h'.objs.size) { s with heap := h'.push (lamO q params body scope clos ((X.mg "__name__").getD .none) c' ctv), toks := tk } := fun {h' H' tk c' ctv oc fv t} J z1 z2 z3 z4 => by
    have J2 : Inv X pins σ H' { s with heap := h'.push (lamO q params body scope clos ((X.mg "__name__").getD .none) c' ctv), toks := tk } := J.kept (t' := tk) fun b u z => Heap.get?_push_of_some _ z
    refine h _ c' ctv oc fv t H' _ (J2.pins_of fun r hr => ?_) z1 z2 z3 J.sz z4
    rcases List.mem_cons.mp hr with rfl | hr
    · exact ⟨Heap.get?_push_size _ rfl, J.hok.fresh (Nat.le_refl _), Ne.symm (Nat.ne_of_lt J.lt), J.nofs (Nat.le_refl _), fun v z => by cases z⟩
    · exact J2.pin r (List.mem_append_right _ hr)
  cases hn : codeAmong pos ps.toList with
  | some cv =>
    obtain ⟨c', oc, fv, t, rfl, z1, z2, z3⟩ := al pos cv hn
    refine kla_makeFunctionHit (mg := X.mg) hcl I.ok.glob hg hcode hC e tr hn hB fun ctv h' tk hk hsz => ?_
    exact fin (I.kept (t' := tk) hk) z1 z2 z3 fun _ _ z => z
  | none =>
    refine kla_makeFunction (mg := X.mg) hcl I.ok.glob hg hcode hC e tr hn hG hB fun c' ctv h' tk hx hge hlt hrec htb => ?_
    obtain ⟨c₂, oc, fv, t, e2, hoc, hd, hv⟩ := hrec
    cases e2
    have hf := I.hok.fresh hge
    exact fin (I.un (t' := tk) (Un.grow hp hx hge hf ⟨_, htb⟩) (I.hok.grow hp e hx hge hoc hd hv htb)) upd_same hd hv fun b o z => by rw [upd_ne (ne_of_none z hf)]; exact z
end
end L2
namespace L2
open PySem PySem.W PySem.Spec PyProof.Rows PySem.Calls
section
variable {prog : Program} {w : World} {A : Around} {E : Value → Shared → Prop} {s : Shared}
def SubTo (prog : Program) (w : World) (h : Heap) (a : Addr) (i : Int) (v0 : Value) : Prop :=
  ∀ (A' : Around) (Q' E' : Value → Shared → Prop) (value slice : Expr) (t : Tok) (s1 : Shared), (∀ o, h.get? a = some o → s1.heap.get? a = some o) → subscripted slice false (.ref a) (.int i t) = operate [.ref a, .int i t] (getItem (.ref a) (.int i t)) →
    Q' v0 s1 → wpAny (model prog w) A' (subscriptTail value slice (.ref a) (.int i t)) Q' E' s1
theorem lam_get {f c' cc a : Addr} {q x y : Str} {params : Arguments} {scope : Scope} {p1 p2 pos : Pos} {pm ctv : Value} {i : Int} {t : Tok} {v0 : Value}
    (hd : A.depth < recursionLimit) (lim : s.heap.NoLimit) (ho : s.heap.get? f = some (lamO q params (.Subscript (.Name x p1) (.Name y p2) pos) scope [(x, cc)] pm c' ctv)) (hrec : s.heap.CodeRec (.ref c') q)
    (hcell : s.heap.IsCell cc (some (.ref a))) (hix : SubTo prog w s.heap a i v0)
    (hb : bindArgs (kla_fn "<lambda>" q params (.Subscript (.Name x p1) (.Name y p2) pos) scope [(x, cc)] pm (.ref c') ctv) ⟨[.int i t], []⟩ = pure [(y, .int i t)])
    (hk : scope.kind = .function) (hx : scope.names.lookup x = some .free) (hy : scope.names.lookup y = some .local) (hco : scope.isCoroutine = false) (hgen : scope.isGenerator = false) (hnc : ∀ z ∈ scope.names, z.2 ≠ .cell)
    (hdx : (x == ("__debug__" : Str)) = false) (hcx : (x == ("__classdict__" : Str)) = false) (hdy : (y == ("__debug__" : Str)) = false) (hpl : PlainIx (.Name y p2)) :
    wpAny (model prog w) A (call (.ref f) [.int i t]) (fun v s' => v = v0 ∧ ∃ h' tk, s' = { s with heap := h', toks := tk } ∧ ∀ b o, s.heap.get? b = some o → h'.get? b = some o) E s := by
  refine wpAny_call ?_
  refine kla_callFunE hd ho rfl hco hgen rfl hrec ?_
  rw [hb]
  refine wpAny_pure (wpAny_newFunctionEnv hnc (fun z hz => ?_) (fun h₁ hns hsb => ⟨?_, ?_⟩) hk)
  · rw [List.mem_singleton.mp hz]; exact hy
  · exact lim.fresh _ hsb
  · have hk₁ : ∀ b o, s.heap.get? b = some o → h₁.get? b = some o := fun b o e => hsb.extBut b o (Nat.ne_of_lt (Heap.lt_size e)) (Heap.get?_push_of_some _ e)
    refine kla_codeExpr ?_
    refine Subscript_ ?_
    obtain ⟨oc, hoc, hcd⟩ := hcell
    refine wpAny_Name (wpAny_loadName_free (c := cc) (v := .ref a) hk hx ?_ ⟨oc, hk₁ _ _ hoc, hcd⟩ ?_ hcx) hdx
    · simp [newEnv, List.lookup]
    · refine wpAny_Name (wpAny_loadName_local (v := .int i t) hk hy hns ?_ ?_) hdy
      · simp [List.lookup]
      · exact hix _ _ _ _ _ _ _ (hk₁ a) (hpl _ _) ⟨rfl, h₁, _, rfl, hk₁⟩
end
end L2
namespace L2
open PySem PySem.W PySem.Spec PyProof.Rows PySem.Calls
theorem all_kept {g h h' : Heap} {L : Addr} {m : Str → Option Value} {more : List (Addr × Obj)} (k : ∀ b o, g.get? b = some o → h.get? b = some o) (F : Fr g L h' m) (N : News g L h' (allNews g h L ++ more)) :
    ∀ b o, b ≠ L → h.get? b = some o → h'.get? b = some o := fun b o h1 e => by
  cases q : g.get? b with
  | some u =>
    have := k b u q
    rw [e] at this; cases this
    exact F.keep b _ q
  | none => exact (N (b, o) (List.mem_append_left _ (mem_allNews h1 q e))).1
section
variable {X : Cx} {pins : List (Addr × Obj)} {σ : St} {H : Hp} {s : Shared}
theorem Inv.keptL {h' : Heap} {tk : Nat} {m : Str → Option Value} (I : Inv X pins σ H s) (k : ∀ b o, b ≠ X.env.locals → s.heap.get? b = some o → h'.get? b = some o) (hm : s.heap.Ns X.env.locals m) (hm' : h'.Ns X.env.locals m) : Inv X pins σ H { s with heap := h', toks := tk } := by
  refine I.step (g' := s.gens) (d' := s.drawn) (ch := []) (fun _ z => nomatch z) (fun b o hL _ _ e _ => k b o hL e) (fun b o hL _ _ e _ => ⟨o.slots, k b o hL e⟩) (fun _ _ _ _ n => n) (fun b o _ e => ?_) (fun _ _ e => e) (fun _ _ _ e => e) (fun b ps e => ⟨#[], by rw [e]; simp⟩) (fun m' hn => ?_) (fun b u e => ?_) I.bare
  · by_cases hb : b = X.env.locals
    · obtain ⟨o', _, _, e', _⟩ := hm'
      exact ⟨o', by rw [hb]; exact e'⟩
    · exact ⟨o, k b o hb e⟩
  · have : m' = m := funext fun x => hn.agree hm x
    rw [this]; exact hm'
  · refine (I.hok b u e).stay (fun c v hc q => k c v (fun z => ?_) q) (fun _ q => q) fun _ _ q => q
    have hf := I.free
    rcases hc with rfl | hc
    · rw [z, hf] at e; cases e
    · rw [z, hf] at hc; cases hc
theorem sub_to {a : Addr} {os : List V} {n : Int} {z : Int} (I : Inv X pins σ H s) (h : SqL X.K H a os ∨ SqT X.K H a os) (h0 : 0 ≤ n) (e : os[n.toNat]? = some (.int z)) : ∃ t, SubTo X.prog X.w s.heap a n (.int z t) ∧ ∃ o, s.heap.get? a = some o ∧ ∀ es ep, o.data ≠ .dict es ep := by
  have hn := line63
  rcases h with h | h
  · obtain ⟨its, r, pl, hz⟩ := I.list h
    obtain ⟨u, eu, t, rfl⟩ := r.get e
    have hlt : n.toNat < os.length := (List.getElem?_eq_some_iff.mp e).1
    refine ⟨t, fun A' Q' E' value slice t1 s1 k hs q => item_listR (items := its.toArray) (let ⟨o, e1, c⟩ := pl.isList; ⟨o, k _ e1, c⟩) h0 (by omega) (by simpa using eu) q hs, ?_⟩
    obtain ⟨o, n', e1, c1, d1, q1⟩ := pl
    exact ⟨o, e1, fun es ep z => by rw [q1] at z; cases z⟩
  · obtain ⟨its, r, pl, hz⟩ := I.tuple h
    obtain ⟨u, eu, t, rfl⟩ := r.get e
    have hlt : n.toNat < os.length := (List.getElem?_eq_some_iff.mp e).1
    have hl := r.length
    refine ⟨t, fun A' Q' E' value slice t1 s1 k hs q => ?_, ?_⟩
    · have pl1 : IsTup s1.heap a its.toArray := let ⟨o, e1, c⟩ := pl; ⟨o, k _ e1, c⟩
      refine subscriptTail_builtinR (x := .int z t) pl1.typeIs slot_tuple_getitem.lookup (getItem_tuple (j := n.toNat) (Q := fun r s' => r = .int z t ∧ Q' r s') pl1 (by omega) (by omega) ?_ (by simpa using eu) ⟨rfl, q⟩) hs
      rw [List.size_toArray, ← hl]
      exact seqIndex_of h0 (by omega)
    · obtain ⟨o, e1, c1, n', d1⟩ := pl
      exact ⟨o, e1, fun es ep z => by rw [d1] at z; cases z⟩
end
end L2
namespace L2
open PySem PySem.W PySem.Spec PyProof.Rows PySem.Calls
structure LamIx (X : Cx) (q x y : Str) (params : Arguments) (scope : Scope) (p1 p2 pos : Pos) : Prop where
  qual : X.env.qual ++ "<lambda>" = q
  dflt : defaultsOf params X.env = ([], [])
  clos : ∀ cc, X.env.cells.lookup x = some cc → closureFor scope X.env = pure [(x, cc)]
  bind : ∀ (cc c' : Addr) (pm ctv : Value) (i : Int) (t : Tok), bindArgs (kla_fn "<lambda>" q params (.Subscript (.Name x p1) (.Name y p2) pos) scope [(x, cc)] pm (.ref c') ctv) ⟨[.int i t], []⟩ = pure [(y, .int i t)]
  kind : scope.kind = .function
  kx : scope.names.lookup x = some .free
  ky : scope.names.lookup y = some .local
  co : scope.isCoroutine = false
  gen : scope.isGenerator = false
  cells : ∀ z ∈ scope.names, z.2 ≠ .cell
  dx : (x == ("__debug__" : Str)) = false
  cx : (x == ("__classdict__" : Str)) = false
  dy : (y == ("__debug__" : Str)) = false
section
variable {X : Cx} {x y q : Str} {params : Arguments} {scope : Scope} {p1 p2 bpos lpos kpos np pos : Pos} {e : Expr} {tl : TE} {j : Nat} {c p : Addr}
def rBest (K : PySem.W.Frag) (j : Nat) (p : Addr) (q : Str) (le : Int → Int → Prop) (σ : St) (Q : VK) : V → Hp → Prop := fun l H1 => ∃ (b a : Addr) (ns : List Int) (os : List V) (ky : Int → Int), l = .ref b ∧ SqL K H1 b (ns.map V.int) ∧ ns ≠ [] ∧ H1 p = some (.lam q) ∧
  σ[j]? = some (some (.ref a)) ∧ (SqL K H1 a os ∨ SqT K H1 a os) ∧ (∀ n ∈ ns, 0 ≤ n ∧ os[n.toNat]? = some (.int (ky n))) ∧ ∀ m ∈ ns, (∀ n ∈ ns, le (ky m) (ky n)) → ∀ H', (∀ b o, H1 b = some o → H' b = some o) → Q (.int m) H'
def tBest (K : PySem.W.Frag) (j : Nat) (p : Addr) (q : Str) (le : Int → Int → Prop) (tl : TE) : TE := fun σ H Q => tl σ H (rBest K j p q le σ Q)
def only1 (R : V → Hp → Prop) : List V → Hp → Prop := fun vs H => match vs with
  | [l] => R l H
  | _ => False
theorem only1.get {R : V → Hp → Prop} {vs : List V} {H : Hp} (h : only1 R vs H) : ∃ l, vs = [l] ∧ R l H := by
  match vs, h with
  | [l], h => exact ⟨l, rfl, h⟩
theorem lam_turn {pins : List (Addr × Obj)} {σ : St} {H : Hp} {s : Shared} {f cc c' a : Addr} {pm ctv : Value} {oc : Obj} {fv : Array Value} {t0 : Tok} {m : Str → Option Value} {os : List V} {n z : Int} {t : Tok} (hr : Room 1 X.A) (Lm : LamIx X q x y params scope p1 p2 bpos)
    (I : Inv X ((f, lamO q params (.Subscript (.Name x p1) (.Name y p2) bpos) scope [(x, cc)] pm c' ctv) :: pins) σ H s) (hc' : H c' = some (.frz oc (.own c'))) (hd : oc.data = .fields fv) (hv : fv[1]? = some (.str q t0))
    (hcell : s.heap.IsCell cc (some (.ref a))) (hcc : X.env.cells.lookup x = some cc) (ha : SqL X.K H a os ∨ SqT X.K H a os) (h0 : 0 ≤ n) (hn : os[n.toNat]? = some (.int z)) (hpl : PlainIx (.Name y p2)) :
    ∀ (h : Heap) (tk : Nat) (own : List (Addr × Obj)), Fr X.base X.env.locals h m → News X.base X.env.locals h (allNews X.base s.heap X.env.locals ++ own) →
      wpAny (model X.prog X.w) X.A.in1 (call (.ref f) [.int n t]) (KskEnd X.base X.env.locals m (allNews X.base s.heap X.env.locals ++ own) z { s with heap := h, toks := tk }) (fun _ _ => False) { s with heap := h, toks := tk } := by
  intro h tk own F N
  have ak := all_kept I.bk F N
  have pf := I.pin _ (List.mem_append_right _ (List.mem_cons_self))
  obtain ⟨tz, hsub, oa, eoa, nd⟩ := sub_to I ha h0 hn
  have hL := I.free
  have naL : a ≠ X.env.locals := fun q => by
    obtain ⟨m', ⟨o', es, ep, e', d', _⟩, _⟩ := I.loc
    rw [q, e'] at eoa; cases eoa
    exact nd _ _ d'
  obtain ⟨ec, _⟩ := I.hok _ _ hc'
  have nc' : c' ≠ X.env.locals := fun q => by rw [q, hL] at hc'; cases hc'
  obtain ⟨ocl, ecl, dcl⟩ := hcell
  refine wpAny_mono (lam_get (a := a) (v0 := .int z tz) (x := x) (y := y) (cc := cc) (q := q) (s := { s with heap := h, toks := tk }) hr.in1.depth (I.mod.nolimit.keeps F.keep) (ak _ _ pf.2.2.1 pf.1) ⟨c', oc, fv, t0, rfl, ak _ _ nc' ec, hd, hv⟩ ⟨ocl, ak _ _ (I.cne x cc hcc) ecl, dcl⟩ ?_ (Lm.bind _ _ _ _ _ _) Lm.kind Lm.kx Lm.ky Lm.co Lm.gen Lm.cells Lm.dx Lm.cx Lm.dy hpl) ?_ fun _ _ z => z
  · exact fun A' Q' E' value slice t1 s1 k hs qq => hsub A' Q' E' value slice t1 s1 (fun o e => k o (ak _ _ naL e)) hs qq
  · rintro v s' ⟨rfl, h', tk', rfl, k⟩
    exact ⟨h', tk', tz, rfl, rfl, ⟨F.ns.keeps k, fun b o e => k b o (F.keep b o e), F.above⟩, N.grown k⟩
theorem lam_list {pins : List (Addr × Obj)} {σ : St} {H : Hp} {s : Shared} {m : Str → Option Value} {b : Addr} {its : List Value} (I : Inv X pins σ H s) (pl : PlainL s.heap b its.toArray) :
    ∀ h, Fr X.base X.env.locals h m → News X.base X.env.locals h (allNews X.base s.heap X.env.locals) → h.IsList b its.toArray := fun h F N => by
  have ak := all_kept (more := []) I.bk F (by rw [List.append_nil]; exact N)
  obtain ⟨o, n, e, c1, d1, q1⟩ := pl
  refine ⟨o, ak _ _ (fun z => ?_) e, c1, n, q1⟩
  obtain ⟨m', ⟨o', es, ep, e', d', _⟩, _⟩ := I.loc
  rw [z, e'] at e; cases e
  rw [q1] at d'; cases d'
theorem cell_of {pins : List (Addr × Obj)} {σ : St} {H : Hp} {s : Shared} {a : Addr} (I : Inv X pins σ H s) (hN : X.N[j]? = some x) (hk : X.env.scope.names.lookup x = some .cell) (hσ : σ[j]? = some (some (.ref a))) : ∃ cc, X.env.cells.lookup x = some cc ∧ s.heap.IsCell cc (some (.ref a)) := by
  obtain ⟨mm, hnm, hl⟩ := I.loc
  obtain ⟨u, ru, lk⟩ := hl j x _ hN hσ (.inr (.inl hk))
  cases ru
  rcases lk with ⟨z, _⟩ | ⟨_, cc, h1, h2⟩
  · have z : X.env.scope.names.lookup x = some .local := z
    rw [hk] at z; cases z
  · exact ⟨cc, h1, h2⟩
theorem pe_minkey (hc : X.calm = true) (hr : Room 1 X.A) (hg : Gl X "min") (hm : X.mg "min" = none) (hv : bootBuiltins "min" = some (.builtin "min")) (hb : BmAt X.mg X.base) (hcode : X.env.code = .ref c) (C : CodeHd X.base c p) (hN : X.N[j]? = some x) (hk : X.env.scope.names.lookup x = some .cell) (Lm : LamIx X q x y params scope p1 p2 bpos) (hpl : PlainIx (.Name y p2)) (he : PE X e tl)
    (hse : starEach [e] X.env = [(false, eval e X.env)] := by rfl) : PE X (.Call (.Name "min" np) [e] [⟨some "key", .Lambda params (.Subscript (.Name x p1) (.Name y p2) bpos) scope lpos, kpos⟩] pos) (tBest X.K j p q (fun i j => i ≤ j) tl) := by
  intro pins s σ H Q I h
  refine wpAny_Call_Name_kw (ld_blt I hg hm hv ?_)
  have ha : PA X [e] (tCons tl tNil) := pa_cons he pa_nil hse
  refine callWith_kw (thn (ha pos pins s σ H (only1 (rBest X.K j p q (fun i j => i ≤ j) σ Q)) I (show tCons tl tNil σ H (only1 _) from h)) fun us s1 ⟨vs, H1, I1, r, q1⟩ => ?_) (by rw [hse]; rfl) (by rw [hse]; rfl)
  obtain ⟨l, rfl, b, a, ns, os, ky, rfl, hB, hne, hp, hσ, ha2, hky, qq⟩ := q1.get
  obtain ⟨u, rfl, ru⟩ := vals1 r
  cases ru
  obtain ⟨cc, hcc, hcell⟩ := cell_of I1 hN hk hσ
  show wpAny _ _ (evalAll [do let v ← eval (.Lambda params (.Subscript (.Name x p1) (.Name y p2) bpos) scope lpos) X.env; standAt pos; pure v]) _ _ _
  refine wpAny_evalAll_cons (wpAny_bind (eval_lam I1 hb hcode C hp Lm.qual Lm.dflt (Lm.clos cc hcc) fun f c' ctv oc fv t0 H2 s2 I2 hc2 hd2 hv2 _ k2 => wpAny_bind (wpAny_standAt (wpAny_pure (wpAny_evalAll_nil ?_)))))
  show wpAny _ _ (call (.builtin "min") [.ref b] [(Str.ofString "key", .ref f)]) _ _ _
  have k2 : Same H1 H2 := k2
  obtain ⟨cc', hcc', hcell'⟩ := cell_of I2 hN hk hσ
  obtain rfl : cc = cc' := by rw [hcc] at hcc'; exact Option.some.inj hcc'
  obtain ⟨its, ri, pl, hz⟩ := I2.list (k2.seq hB)
  obtain ⟨zs, rfl, hzs⟩ := int_items ri
  have hlen : zs.length = ns.length := by rw [← hzs, List.length_map]
  obtain ⟨m, F⟩ := I2.fr
  have hat : ∀ {i : Nat} {v : Value}, (zs.map fun p => Value.int p.1 p.2)[i]? = some v → ∃ n t, v = .int n t ∧ n ∈ ns ∧ ns[i]? = some n := fun {i v} hi => by
    rw [List.getElem?_map] at hi
    cases hz : zs[i]? with
    | none => rw [hz] at hi; cases hi
    | some z =>
      rw [hz] at hi; cases hi
      have hn : ns[i]? = some z.1 := by rw [← hzs, List.getElem?_map, hz]; rfl
      exact ⟨z.1, z.2, rfl, List.mem_of_getElem? hn, hn⟩
  refine kmk_min (fun k => ky (ns.getD k 0)) (I2.ok.hd hc) F news_all (lam_list I2 pl) (by rw [List.length_map, hlen]; exact List.length_pos_iff.mpr hne) (fun i v hi => ?_) fun i v h' tk' hi best F' N' => ?_
  · obtain ⟨n, t, rfl, hn, hni⟩ := hat hi
    show ∀ _, _
    rw [show ns.getD i 0 = n by rw [List.getD_eq_getElem?_getD, hni]; rfl]
    exact lam_turn hr Lm I2 hc2 hd2 hv2 hcell' hcc (ha2.imp (fun z => k2.seq z) (fun z => k2.sqt z)) (hky n hn).1 (hky n hn).2 hpl
  · obtain ⟨n, t, rfl, hn, hni⟩ := hat hi
    have ak := all_kept (more := []) I2.bk F' (by rw [List.append_nil]; exact N')
    have J := I2.keptL (tk := tk') ak F.ns F'.ns
    refine ⟨.int n, H2, J.pins_of fun r hr => J.pin r (List.mem_append_right _ (List.mem_cons_of_mem _ hr)), ⟨t, rfl⟩, qq n hn (fun k hk => ?_) H2 k2⟩
    obtain ⟨j', hj', ej⟩ := List.getElem_of_mem hk
    have := (best j' (by rw [List.length_map, hlen]; exact hj')).1
    rw [show ns.getD i 0 = n by rw [List.getD_eq_getElem?_getD, hni]; rfl, show ns.getD j' 0 = k by rw [List.getD_eq_getElem?_getD, List.getElem?_eq_getElem hj', ej]; rfl] at this
    exact this
theorem pe_maxkey (hc : X.calm = true) (hr : Room 1 X.A) (hg : Gl X "max") (hm : X.mg "max" = none) (hv : bootBuiltins "max" = some (.builtin "max")) (hb : BmAt X.mg X.base) (hcode : X.env.code = .ref c) (C : CodeHd X.base c p) (hN : X.N[j]? = some x) (hk : X.env.scope.names.lookup x = some .cell) (Lm : LamIx X q x y params scope p1 p2 bpos) (hpl : PlainIx (.Name y p2)) (he : PE X e tl)
    (hse : starEach [e] X.env = [(false, eval e X.env)] := by rfl) : PE X (.Call (.Name "max" np) [e] [⟨some "key", .Lambda params (.Subscript (.Name x p1) (.Name y p2) bpos) scope lpos, kpos⟩] pos) (tBest X.K j p q (fun i j => j ≤ i) tl) := by
  intro pins s σ H Q I h
  refine wpAny_Call_Name_kw (ld_blt I hg hm hv ?_)
  have ha : PA X [e] (tCons tl tNil) := pa_cons he pa_nil hse
  refine callWith_kw (thn (ha pos pins s σ H (only1 (rBest X.K j p q (fun i j => j ≤ i) σ Q)) I (show tCons tl tNil σ H (only1 _) from h)) fun us s1 ⟨vs, H1, I1, r, q1⟩ => ?_) (by rw [hse]; rfl) (by rw [hse]; rfl)
  obtain ⟨l, rfl, b, a, ns, os, ky, rfl, hB, hne, hp, hσ, ha2, hky, qq⟩ := q1.get
  obtain ⟨u, rfl, ru⟩ := vals1 r
  cases ru
  obtain ⟨cc, hcc, hcell⟩ := cell_of I1 hN hk hσ
  show wpAny _ _ (evalAll [do let v ← eval (.Lambda params (.Subscript (.Name x p1) (.Name y p2) bpos) scope lpos) X.env; standAt pos; pure v]) _ _ _
  refine wpAny_evalAll_cons (wpAny_bind (eval_lam I1 hb hcode C hp Lm.qual Lm.dflt (Lm.clos cc hcc) fun f c' ctv oc fv t0 H2 s2 I2 hc2 hd2 hv2 _ k2 => wpAny_bind (wpAny_standAt (wpAny_pure (wpAny_evalAll_nil ?_)))))
  show wpAny _ _ (call (.builtin "max") [.ref b] [(Str.ofString "key", .ref f)]) _ _ _
  have k2 : Same H1 H2 := k2
  obtain ⟨cc', hcc', hcell'⟩ := cell_of I2 hN hk hσ
  obtain rfl : cc = cc' := by rw [hcc] at hcc'; exact Option.some.inj hcc'
  obtain ⟨its, ri, pl, hz⟩ := I2.list (k2.seq hB)
  obtain ⟨zs, rfl, hzs⟩ := int_items ri
  have hlen : zs.length = ns.length := by rw [← hzs, List.length_map]
  obtain ⟨m, F⟩ := I2.fr
  have hat : ∀ {i : Nat} {v : Value}, (zs.map fun p => Value.int p.1 p.2)[i]? = some v → ∃ n t, v = .int n t ∧ n ∈ ns ∧ ns[i]? = some n := fun {i v} hi => by
    rw [List.getElem?_map] at hi
    cases hz : zs[i]? with
    | none => rw [hz] at hi; cases hi
    | some z =>
      rw [hz] at hi; cases hi
      have hn : ns[i]? = some z.1 := by rw [← hzs, List.getElem?_map, hz]; rfl
      exact ⟨z.1, z.2, rfl, List.mem_of_getElem? hn, hn⟩
  refine kmk_max (fun k => ky (ns.getD k 0)) (I2.ok.hd hc) F news_all (lam_list I2 pl) (by rw [List.length_map, hlen]; exact List.length_pos_iff.mpr hne) (fun i v hi => ?_) fun i v h' tk' hi best F' N' => ?_
  · obtain ⟨n, t, rfl, hn, hni⟩ := hat hi
    show ∀ _, _
    rw [show ns.getD i 0 = n by rw [List.getD_eq_getElem?_getD, hni]; rfl]
    exact lam_turn hr Lm I2 hc2 hd2 hv2 hcell' hcc (ha2.imp (fun z => k2.seq z) (fun z => k2.sqt z)) (hky n hn).1 (hky n hn).2 hpl
  · obtain ⟨n, t, rfl, hn, hni⟩ := hat hi
    have ak := all_kept (more := []) I2.bk F' (by rw [List.append_nil]; exact N')
    have J := I2.keptL (tk := tk') ak F.ns F'.ns
    refine ⟨.int n, H2, J.pins_of fun r hr => J.pin r (List.mem_append_right _ (List.mem_cons_of_mem _ hr)), ⟨t, rfl⟩, qq n hn (fun k hk => ?_) H2 k2⟩
    obtain ⟨j', hj', ej⟩ := List.getElem_of_mem hk
    have := (best j' (by rw [List.length_map, hlen]; exact hj')).1
    rw [show ns.getD i 0 = n by rw [List.getD_eq_getElem?_getD, hni]; rfl, show ns.getD j' 0 = k by rw [List.getD_eq_getElem?_getD, List.getElem?_eq_getElem hj', ej]; rfl] at this
    exact this
theorem clos_1 {env : Env} {cc : Addr} (hs : scope.names = [(y, .local), (x, .free)] ∨ scope.names = [(x, .free), (y, .local)]) (h : env.cells.lookup x = some cc) : closureFor scope env = pure [(x, cc)] := by
  have e : cellOf env x = pure cc := by unfold cellOf; rw [h]
  unfold closureFor
  rcases hs with hs | hs <;> rw [hs] <;> simp [e]
theorem lam_ix (hq : X.env.qual ++ "<lambda>" = q) (hd : defaultsOf params X.env = ([], [])) (hs : scope.names = [(y, .local), (x, .free)] ∨ scope.names = [(x, .free), (y, .local)])
    (hb : ∀ (cc c' : Addr) (pm ctv : Value) (i : Int) (t : Tok), bindArgs (kla_fn "<lambda>" q params (.Subscript (.Name x p1) (.Name y p2) bpos) scope [(x, cc)] pm (.ref c') ctv) ⟨[.int i t], []⟩ = pure [(y, .int i t)])
    (hk : scope.kind = .function) (kx : scope.names.lookup x = some .free) (ky : scope.names.lookup y = some .local) (co : scope.isCoroutine = false) (gen : scope.isGenerator = false) (dx : (x == ("__debug__" : Str)) = false) (cx : (x == ("__classdict__" : Str)) = false) (dy : (y == ("__debug__" : Str)) = false) :
    LamIx X q x y params scope p1 p2 bpos :=
  ⟨hq, hd, fun cc h => clos_1 hs h, hb, hk, kx, ky, co, gen, fun z hz => by rcases hs with hs | hs <;> rw [hs] at hz <;> simp at hz <;> rcases hz with rfl | rfl <;> (intro zz; cases zz), dx, cx, dy⟩
end
end L2
namespace Tn
open L2 PySem
def BarAt (ord : List Int) (i j k l : Nat) : Prop := i < j ∧ j < k ∧ k < l ∧ l < ord.length ∧ ord.getD k 0 < ord.getD i 0 ∧ ord.getD i 0 < ord.getD l 0 ∧ ord.getD l 0 < ord.getD j 0
def BarBest (ord : List Int) (i j k l : Nat) : Prop := BarAt ord i j k l ∧ (∀ i', i' < j → ord.getD k 0 < ord.getD i' 0 → ord.getD i' 0 < ord.getD j 0 → ord.getD i 0 ≤ ord.getD i' 0) ∧ ∀ l', k < l' → l' < ord.length → ord.getD k 0 < ord.getD l' 0 → ord.getD l' 0 < ord.getD j 0 → ord.getD l' 0 ≤ ord.getD l 0
def spBarAround (K : PySem.W.Frag) (p : Addr) (q : Str) : Sp := fun vs H Q _ => ∃ (a : Addr) (ord : List Int) (j k : Nat), vs = [.ref a, .int (j : Int), .int (k : Int)] ∧ SqT K H a (ord.map V.int) ∧ ord.length ≤ 1000 ∧ j < k ∧ k < ord.length ∧ H p = some (.lam q) ∧
  (∀ (i l : Nat) (b : Addr) (H' : Hp), BarBest ord i j k l → H' b = some (.tup [.int (i : Int), .int (j : Int), .int (k : Int), .int (l : Int)]) → Same H H' → Q (.ref b) H') ∧
  (∀ H', (∀ i l, ¬ BarAt ord i j k l) → Same H H' → Q .non H')
end Tn
namespace L2
open PySem PySem.W PySem.Spec PyProof.Rows PySem.Calls
section
variable {P : Program} {w : World} {K : Frag} {mg mb : Str → Option Value} {k : Nat} {fa a p c : Addr} {fd : FuncData} {x q : Str} {sp : Sp} {s₁ : Shared} {vs : List Value} {ns : List Int}
def hpL (K : Frag) (a p : Addr) (q : Str) (vs : List Value) (ns : List Int) : Hp := fun b => if b = p then some (.lam q) else if b = a ∧ K.lookup a = none then some (.frz { cls := .type "list", data := .seq vs.toArray } (.lst (ns.map V.int))) else none
theorem hpL_some {b : Addr} {u : HO} (e : hpL K a p q vs ns b = some u) : (b = p ∧ u = .lam q) ∨ (b = a ∧ K.lookup a = none ∧ u = .frz { cls := .type "list", data := .seq vs.toArray } (.lst (ns.map V.int))) := by
  unfold hpL at e
  split at e
  · rename_i h; exact .inl ⟨h, (Option.some.inj e).symm⟩
  · split at e
    · rename_i h; exact .inr ⟨h.1, h.2, (Option.some.inj e).symm⟩
    · cases e
theorem law_callL (KX : K.In s₁.heap) (hns : s₁.heap.Ns mainGlobals mg) (hb : s₁.heap.Ns builtinsNs mb) (hbb : ∀ x : Str, x ≠ "__name__" → mb x = bootBuiltins x) (hlim : s₁.heap.NoLimit) (hg : s₁.gens = #[])
    (ha : s₁.heap.get? a = some { cls := .type "list", data := .seq vs.toArray }) (hi : IntsAre vs ns) (hl : ns.length ≤ sizeLine) (hr : Room k callerA) (hp : s₁.heap.get? p = some (tabObj #[])) (hKp : K.lookup p = none) (C : CodeHd s₁.heap c p) (bm : BmAt mg s₁.heap)
    (F : ∀ base : Heap, K.In base → base.Ns mainGlobals mg → BmAt mg base → FnOk P w K mg base CX0 k fa fd [x] sp) (hbind : ∀ (s : Shared) (u : Value), BindsTo s fd ⟨[u], []⟩ [(x, u)])
    (hsp : ∀ H : Hp, H p = some (.lam q) → SqL K H a (ns.map V.int) → sp [.ref a] H (fun v H' => v = .bl true ∧ H' p = some (.lam q)) fun _ _ _ => False) :
    codeAny (model P w) callerA (.call (.ref fa) ⟨[.ref a], []⟩) (fun r s' => r = .ok (.ret (.bool true)) ∧ OldK s₁.heap s'.heap ∧ s'.os = s₁.os ∧ AllBare s'.gens) s₁ := by
  have rv := vals_ints hi
  have lenV := hi.length
  have hap : a ≠ p := fun z => by rw [z, hp] at ha; cases ha
  have hHp : hpL K a p q vs ns p = some (.lam q) := if_pos rfl
  have dat : ∀ {b : Addr} {o : Obj}, s₁.heap.get? b = some o → (∀ fv, o.data ≠ .fields fv) → (∀ its n, o.data ≠ .seq its n) → hpL K a p q vs ns b = none := fun {b o} e d1 d2 => by
    cases z : hpL K a p q vs ns b with
    | none => rfl
    | some u =>
      rcases hpL_some z with ⟨rfl, _⟩ | ⟨rfl, _, _⟩
      · rw [hp] at e; cases e; exact absurd rfl (d1 _)
      · rw [ha] at e; cases e; exact absurd rfl (d2 _ _)
  have nsK : ∀ {b : Addr} {m : Str → Option Value}, s₁.heap.Ns b m → (hidT s₁.heap (hpL K a p q vs ns)).Ns b m := fun {b m} ⟨o, es, ep, e, d, r⟩ =>
    ⟨o, es, ep, hidT_get e (dat e (fun _ z => by rw [d] at z; cases z) fun _ _ z => by rw [d] at z; cases z), d, r⟩
  have hKb : K.In (hidT s₁.heap (hpL K a p q vs ns)) := fun b o e => hidT_get (KX b o e) (by
    cases z : hpL K a p q vs ns b with
    | none => rfl
    | some u =>
      rcases hpL_some z with ⟨rfl, _⟩ | ⟨rfl, h1, _⟩
      · rw [hKp] at e; cases e
      · rw [h1] at e; cases e)
  have hM : Mod K mg (hidT s₁.heap (hpL K a p q vs ns)) := ⟨hKb, nsK hns, ⟨mb, nsK hb, hbb⟩, let ⟨mc, h1, h2⟩ := hlim; ⟨mc, nsK h1, h2⟩⟩
  have hBm : BmAt mg (hidT s₁.heap (hpL K a p q vs ns)) := let ⟨m, ob, b1, b2, b3, b4, b5, b6⟩ := bm; ⟨m, ob, b1, b2, hidT_get b3 (dat b3 (fun _ z => by rw [b6] at z; cases z) fun _ _ z => by rw [b6] at z; cases z), b4, b5, b6⟩
  have hok : HOk P w (hpL K a p q vs ns) s₁.heap := fun b u e => by
    rcases hpL_some e with ⟨rfl, rfl⟩ | ⟨rfl, _, rfl⟩
    · exact ⟨#[], hp, trivial, fun pos cv z => by cases z⟩
    · exact ⟨ha, by rw [List.length_map]; exact hl, vs, _, rv, ha⟩
  have hS : SqL K (hpL K a p q vs ns) a (ns.map V.int) := by
    cases hk : K.lookup a with
    | some o =>
      have e := KX a o hk
      rw [ha] at e
      cases e
      exact .inr ⟨_, vs.toArray, _, hk, rfl, rfl, rfl, by rw [List.size_toArray, lenV]; exact hl, by simpa using rv⟩
    | none => exact .inl (.inr ⟨_, by unfold hpL; rw [if_neg hap, if_pos ⟨rfl, hk⟩]⟩)
  have e0 : Env0 P w K mg (hidT s₁.heap (hpL K a p q vs ns)) callerA [] s₁ (hpL K a p q vs ns) := ⟨rfl, hM, fun b o e => of_hidT e, Nat.le_of_eq (hidT_size _ _), trivial, fun b hb => absurd (show b ∈ ([] : List Addr) from hb) (by simp), hok, .of_eq hg⟩
  refine codeAny_mono ((F _ hKb (nsK hns) hBm).run callerA [] s₁ _ ⟨[.ref a], []⟩ [.ref a] [.ref a] _ _ hr e0 (hbind s₁ (.ref a)) (.cons rfl .nil) (hsp _ hHp hS)) fun r s' h => ?_
  cases r with
  | error e => exact False.elim h
  | ok fl =>
    cases fl with
    | next => exact False.elim h
    | brk => exact False.elim h
    | cont => exact False.elim h
    | ret u =>
      obtain ⟨v, H', os, bare, un, hok', r', rfl, hp'⟩ := h
      obtain rfl : u = Value.bool true := r'
      obtain ⟨ps, eP, _⟩ := hok' _ _ hp'
      have all : ∀ b o, s₁.heap.get? b = some o → (b = p ∧ o = tabObj #[]) ∨ s'.heap.get? b = some o := fun b o e => by
        cases z : hpL K a p q vs ns b with
        | none => exact .inr (un.keep b o e z (by intro y; exact absurd (show b ∈ ([] : List Addr) from y) (by simp)) (by simp))
        | some y =>
          rcases hpL_some z with ⟨rfl, _⟩ | ⟨rfl, h1, rfl⟩
          · rw [hp] at e; cases e; exact .inl ⟨rfl, rfl⟩
          · have z2 := un.frzs _ _ _ z
            obtain ⟨e2, _⟩ := hok' _ _ z2
            rw [ha] at e; cases e
            exact .inr e2
      refine ⟨rfl, ⟨fun b o e => ?_, fun b o e => ?_⟩, os, bare⟩
      · rcases all b o e with ⟨rfl, rfl⟩ | z
        · exact .inr (.inl ⟨(C.tab hp).isCodeTable, rfl, #[], ps, rfl, by rw [Array.empty_append]; exact eP⟩)
        · exact .inl z
      · rcases all b o e with ⟨rfl, rfl⟩ | z
        · exact ⟨_, eP⟩
        · exact ⟨o, z⟩
end
theorem walk_ofL {l : OpenLaw} {n k : Nat} {pr : Program} {loose : List Str} {XP : (Str → Option Value) → Heap → Prop} {YP : World → Heap → Prop} {d : DefRec} {K : Params → Frag} {sp : World → Sp} {x q : Str} {p : Addr}
    (hn : l.most = some n) (hn2 : n ≤ sizeLine) (hdf : d.params.defaults = []) (hr : Room k callerA)
    (hY : ∀ (w : World) (h : Heap), YP w h → (K w.params).In h) (hT : ∀ (w : World) (h : Heap), YP w h → ∀ b ∈ [p], h.get? b = some (tabObj #[]))
    (F : ∀ (w : World) (mg : Str → Option Value) (fa : Addr) (h : Heap), (K w.params).In h → h.Ns mainGlobals mg → mg d.name = some (.ref fa) →
      ∃ fd : FuncData, (∀ (s : Shared) (u : Value), BindsTo s fd ⟨[u], []⟩ [(x, u)]) ∧ ((K w.params).lookup p = none ∧ ∃ c, codeHdIn (K w.params) c p = true) ∧
        ∀ base : Heap, (K w.params).In base → base.Ns mainGlobals mg → BmAt mg base → FnOk l.prog w (K w.params) mg base CX0 k fa fd [x] (sp w))
    (hsp : ∀ (w : World) (H : Hp) (a : Addr) (ns : List Int), ns.length ≤ n → (∀ z ∈ ns, Builtin.Int.intBits z ≤ 1048576) → H p = some (.lam q) → SqL (K w.params) H a (ns.map V.int) → sp w [.ref a] H (fun v H' => v = .bl true ∧ H' p = some (.lam q)) fun _ _ _ => False) :
    WalkO pr loose XP YP l.row.toRowW d [] (fun f vs => PySem.call f vs) := by
  refine attach_callB hn hdf fun w s₀ s₁ mg mb fa o pm cd doc a vs ns G Y ho hd hcd hmg hobj hints hlen hbits hg => ?_
  have KX := hY w _ Y
  obtain ⟨fd, hb, ⟨hk, c, hc⟩, hF⟩ := F w mg fa _ KX G.T.g hmg
  exact law_callL KX G.T.g G.T.b G.T.builtins G.T.nolimit hg hobj hints (Nat.le_trans hlen hn2) hr (hT w _ Y p (.head _)) hk (codeHd_of_K KX hc) G.T.bmain hF hb fun H hH hS => hsp w H a ns hlen hbits hH hS
end L2
namespace Tn
open L2 PySem PySem.W PySem.Calls PyProof.Rows PySem.Spec
structure DefC (K : PySem.W.Frag) (mg : Str → Option Value) (x : Str) (st : Stmt) (ps : List Str) (c : Addr) : Prop where
  ex : ∃ (f : Addr) (oc : Value) (od : Option Addr) (kV doc pm : Value) (an : Option Addr) (ct : Value) (osl : Array (Option Value)),
    K.lookup f = some ⟨oc, od, .func (PySem.W.fnOf x x (defArgs st) (defBody st) (defScope st) .none kV doc pm an (.ref c) ct), osl⟩ ∧ PySem.W.codeIn K (.ref c) x = true ∧ PySem.W.keepIn K (.ref f) = true ∧ mg x = some (.ref f) ∧ Binds K (PySem.W.fnOf x x (defArgs st) (defBody st) (defScope st) .none kV doc pm an (.ref c) ct) ps []
theorem DefC.ok {P : Program} {w : World} {K : PySem.W.Frag} {mg : Str → Option Value} {base : Heap} {x : Str} {st : Stmt} {N ps : List Str} {k : Nat} {sp : Sp} {c : Addr} (D : DefC K mg x st ps c) (S : FnScope N ps (defScope st)) (len : ∀ vs H Q E, sp vs H Q E → vs.length = ps.length)
    (hbody : ∀ (f : Addr) (A : Around) (outer : List Env) (s : Shared) (H : Hp) (vs : List V) (Q : VK) (E : XK), Room k (A.deeper (envOfC x (defScope st) s.heap.objs.size f (.ref c))) → sp vs H Q E →
      ∃ t, PSs (cxOf CX0 P w K mg base N x (defScope st) f (.ref c) A outer s H E).nox (defBody st) t ∧ t { nx := fun _ H' => Q .non H', rt := Q } (start N vs) H) : Has P w K mg base CX0 (k + 1) x ps sp := by
  obtain ⟨f, oc, od, kV, doc, pm, an, ct, osl, lk, hcd, h1, h2, h3⟩ := D.ex
  refine ⟨f, _, fn_of lk hcd S len fun A outer s H vs Q E hr hsp => ?_, h1, h2, h3⟩
  obtain ⟨t, h, q⟩ := hbody f A outer s H vs Q E hr hsp
  exact ⟨t, h.nox, q⟩
end Tn
namespace Tn
open L2 PySem
def spLawL (K : PySem.W.Frag) (p : Addr) (q : Str) : Sp := fun vs H Q _ => ∃ (a : Addr) (ns : List Int), vs = [.ref a] ∧ SqL K H a (ns.map V.int) ∧ ns.length ≤ 63 ∧ (∀ z ∈ ns, Builtin.Int.intBits z ≤ 1048576) ∧ H p = some (.lam q) ∧ ∀ H', Same H H' → Q (.bl true) H'
end Tn
namespace Tn
open L2 PySem
def btw (ord : List Int) (lo n : Nat) (x y : Int) : List Int := ((List.range n).filter fun i => decide (x < ord.getD (lo + i) 0) && decide (ord.getD (lo + i) 0 < y)).map fun i => ((lo + i : Nat) : Int)
theorem btw_succ (ord : List Int) (lo n : Nat) (x y : Int) : btw ord lo (n + 1) x y = btw ord lo n x y ++ (if x < ord.getD (lo + n) 0 ∧ ord.getD (lo + n) 0 < y then [((lo + n : Nat) : Int)] else []) := by
  unfold btw
  rw [List.range_succ, List.filter_append, List.map_append]
  congr 1
  by_cases h : x < ord.getD (lo + n) 0 ∧ ord.getD (lo + n) 0 < y
  · rw [if_pos h, List.filter_cons_of_pos (by simpa using h)]
    rfl
  · rw [if_neg h, List.filter_cons_of_neg (by simpa using h)]
    rfl
theorem btw_len (ord : List Int) (lo n : Nat) (x y : Int) : (btw ord lo n x y).length ≤ n := by
  unfold btw
  rw [List.length_map]
  exact Nat.le_trans (List.length_filter_le _ _) (by rw [List.length_range]; exact Nat.le_refl _)
theorem mem_btw {ord : List Int} {lo n : Nat} {x y z : Int} : z ∈ btw ord lo n x y ↔ ∃ i : Nat, lo ≤ i ∧ i < lo + n ∧ z = (i : Int) ∧ x < ord.getD i 0 ∧ ord.getD i 0 < y := by
  unfold btw
  rw [List.mem_map]
  constructor
  · rintro ⟨i, hi, rfl⟩
    rw [List.mem_filter, List.mem_range] at hi
    have h2 := hi.2
    simp only [Bool.and_eq_true, decide_eq_true_eq] at h2
    exact ⟨lo + i, Nat.le_add_right _ _, by omega, rfl, h2.1, h2.2⟩
  · rintro ⟨i, h1, h2, rfl, h3, h4⟩
    refine ⟨i - lo, ?_, by rw [show lo + (i - lo) = i by omega]⟩
    rw [List.mem_filter, List.mem_range]
    refine ⟨by omega, ?_⟩
    simp only [Bool.and_eq_true, decide_eq_true_eq]
    rw [show lo + (i - lo) = i by omega]
    exact ⟨h3, h4⟩
theorem at_getD {ord : List Int} {i : Nat} (h : i < ord.length) : atI (ord.map V.int) (i : Int) = some (V.int (ord.getD i 0)) := by
  refine at_ints ?_
  rw [List.getD_eq_getElem?_getD, List.getElem?_eq_getElem h]
  rfl
theorem comp_btw {K : PySem.W.Frag} {a D : Addr} {ord : List Int} {lo n : Nat} {x y : Int} {js : List Nat} {σ : L2.St} {H : Hp} {Q : VK} (hD : H D = none) (hT : SqT K H a (ord.map V.int)) (hn : lo + n ≤ ord.length) (hl : ord.length ≤ 1000)
    (hj : (js.map fun j => (σ[j]?).getD none) = [some (.ref a), some (.int x), some (.int y)]) (q : Q (.ref D) (upd H D (.lst ((btw ord lo n x y).map V.int)))) :
    CompW (Itr (lo : Int) n) (gName 0) (tTest (tChain (rI0 fun i j => V.bl (decide (i < j))) (rI0 fun i j => V.bl (decide (i < j))) (tVar 2) (tOp (rIxT K) (tVar 1) (tVar 0)) (tVar 3))) (tVar 0) js σ H Q D := by
  have sD : ∀ acc, Same H (upd H D (.lst acc)) := fun acc => same_upd hD
  refine comp_invF (n := n) (fun i acc H' => acc = (btw ord lo i x y).map V.int ∧ H' = upd H D (.lst acc)) ⟨rfl, rfl⟩ ?_ (line1000 (by omega)) ?_ ?_ ?_
  · rintro i acc H' ⟨rfl, rfl⟩
    exact ⟨upd_same, by rw [List.length_map]; exact btw_len _ _ _ _ _⟩
  · rintro i acc H' hi _
    exact hi
  · rintro acc H' ⟨rfl, rfl⟩
    exact ⟨Nat.le_refl _, q⟩
  · rintro i acc H' z H5 R0 R1 hi ⟨rfl, rfl⟩ ⟨rfl, rfl⟩ hR0 hR1
    rw [hj]
    have e := btw_succ ord lo i x y
    have hat : atI (ord.map V.int) ((lo : Int) + (i : Int)) = some (V.int (ord.getD (lo + i) 0)) := by
      rw [show (lo : Int) + (i : Int) = ((lo + i : Nat) : Int) by omega]
      exact at_getD (by omega)
    refine ⟨_, rfl, _, rfl, _, rfl, a, _, _, _, rfl, rfl, (sD _).sqt hT, hat, _, _, rfl, rfl, _, rfl, ?_⟩
    by_cases h1 : x < ord.getD (lo + i) 0
    · rw [decide_eq_true h1]
      refine iteT ⟨_, rfl, _, _, rfl, rfl, _, rfl, ?_⟩
      by_cases h2 : ord.getD (lo + i) 0 < y
      · rw [decide_eq_true h2]
        rw [if_pos ⟨h1, h2⟩] at e
        refine iteT ⟨_, rfl, hR1 _ _ upd_same ⟨?_, upd_upd⟩⟩
        rw [e, List.map_append, show (lo : Int) + (i : Int) = ((lo + i : Nat) : Int) by omega]
        rfl
      · rw [decide_eq_false h2]
        rw [if_neg (fun z => h2 z.2), List.append_nil] at e
        exact iteF (hR0 _ ⟨by rw [e], rfl⟩)
    · rw [decide_eq_false h1]
      rw [if_neg (fun z => h1 z.1), List.append_nil] at e
      exact iteF ⟨_, rfl, iteF (hR0 _ ⟨by rw [e], rfl⟩)⟩
end Tn
namespace Tn
open L2 PySem
def BarFst (ord : List Int) (i j k l : Nat) : Prop := BarBest ord i j k l ∧ ∀ i' j' k' l', BarAt ord i' j' k' l' → j < j' ∨ (j = j' ∧ k ≤ k')
def spFalling (K : PySem.W.Frag) (p : Addr) (q : Str) : Sp := fun vs H Q _ => ∃ (a : Addr) (ord : List Int), vs = [.ref a] ∧ SqT K H a (ord.map V.int) ∧ ord.length ≤ 1000 ∧ H p = some (.lam q) ∧
  (∀ (i j k l : Nat) (b : Addr) (H' : Hp), BarFst ord i j k l → H' b = some (.tup [.int (i : Int), .int (j : Int), .int (k : Int), .int (l : Int)]) → Same H H' → Q (.ref b) H') ∧
  (∀ H', (∀ i j k l, ¬ BarAt ord i j k l) → Same H H' → Q .non H')
end Tn
namespace Tn
open L2 PySem
def spMirror (K : PySem.W.Frag) : Sp := fun vs H Q _ => ∃ (a : Addr) (ord : List Int), vs = [.ref a] ∧ SqT K H a (ord.map V.int) ∧ ord.length ≤ 1000 ∧ ∀ (b : Addr) (H' : Hp), H' b = some (.tup (ord.reverse.map V.int)) → Same H H' → Q (.ref b) H'
def BarUp (ord : List Int) (i j k l : Nat) : Prop := i < j ∧ j < k ∧ k < l ∧ l < ord.length ∧ ord.getD j 0 < ord.getD l 0 ∧ ord.getD l 0 < ord.getD i 0 ∧ ord.getD i 0 < ord.getD k 0
theorem rev_getD {ord : List Int} {i : Nat} (h : i < ord.length) : ord.reverse.getD i 0 = ord.getD (ord.length - 1 - i) 0 := by
  rw [List.getD_eq_getElem?_getD, List.getD_eq_getElem?_getD, List.getElem?_reverse h]
theorem bar_rev {ord : List Int} {i j k l : Nat} (h : BarAt ord.reverse i j k l) : BarUp ord (ord.length - 1 - l) (ord.length - 1 - k) (ord.length - 1 - j) (ord.length - 1 - i) := by
  obtain ⟨h1, h2, h3, h4, h5, h6, h7⟩ := h
  rw [List.length_reverse] at h4
  rw [rev_getD (by omega), rev_getD (by omega)] at h5 h6 h7
  exact ⟨by omega, by omega, by omega, by omega, h5, h6, h7⟩
theorem up_rev {ord : List Int} {i j k l : Nat} (h : BarUp ord i j k l) : BarAt ord.reverse (ord.length - 1 - l) (ord.length - 1 - k) (ord.length - 1 - j) (ord.length - 1 - i) := by
  obtain ⟨h1, h2, h3, h4, h5, h6, h7⟩ := h
  have e : ∀ {m : Nat}, m < ord.length → ord.reverse.getD (ord.length - 1 - m) 0 = ord.getD m 0 := fun {m} hm => by
    rw [rev_getD (by omega), show ord.length - 1 - (ord.length - 1 - m) = m by omega]
  refine ⟨by omega, by omega, by omega, by rw [List.length_reverse]; omega, ?_, ?_, ?_⟩
  · rw [e (by omega), e (by omega)]; exact h5
  · rw [e (by omega), e (by omega)]; exact h6
  · rw [e (by omega), e (by omega)]; exact h7
def BarTold (ord : List Int) (i j k l : Nat) : Prop := BarFst ord i j k l ∨ ((∀ i j k l, ¬ BarAt ord i j k l) ∧ ∃ i' j' k' l', BarFst ord.reverse i' j' k' l' ∧ i = ord.length - 1 - l' ∧ j = ord.length - 1 - k' ∧ k = ord.length - 1 - j' ∧ l = ord.length - 1 - i')
theorem BarTold.bar {ord : List Int} {i j k l : Nat} (h : BarTold ord i j k l) : BarAt ord i j k l ∨ BarUp ord i j k l := by
  rcases h with h | ⟨_, i', j', k', l', h, rfl, rfl, rfl, rfl⟩
  · exact .inl h.1.1
  · exact .inr (bar_rev h.1.1)
def spBarOf (K : PySem.W.Frag) (p : Addr) (q : Str) : Sp := fun vs H Q _ => ∃ (a : Addr) (ord : List Int), vs = [.ref a] ∧ SqT K H a (ord.map V.int) ∧ 1 ≤ ord.length ∧ ord.length ≤ 1000 ∧ H p = some (.lam q) ∧
  (∀ (i j k l : Nat) (b : Addr) (H' : Hp), BarTold ord i j k l → H' b = some (.tup [.int (i : Int), .int (j : Int), .int (k : Int), .int (l : Int)]) → Same H H' → Q (.ref b) H') ∧
  (∀ H', (∀ i j k l, ¬ BarAt ord i j k l ∧ ¬ BarUp ord i j k l) → Same H H' → Q .non H')
end Tn
namespace L2
open PySem PySem.Spec PyProof.Rows Tn
def Itv (K : PySem.W.Frag) (a : Addr) (n : Nat) : It :=
  ⟨fun i H => i < n ∧ ∃ xs, SqT K H a xs ∧ xs.length = n, fun i H x H' => H' = H ∧ ∀ xs, SqT K H a xs → xs[n - 1 - i]? = some x, fun i _ => i = n⟩
theorem turn_rev {P : Program} {w : World} {K : PySem.W.Frag} {tg : Expr} (a it : Addr) (n : Nat) : Turn P w K tg (Itv K a n) [it] it (fun i h => IsRv h it a ((n : Int) - 1 - (i : Nat))) where
  mem := by simp
  obj := fun i h st b hb => by
    have e : b = it := by simpa using hb
    subst e
    obtain ⟨o, e, c, d⟩ := st
    exact ⟨o, e, fun v z => by rw [d] at z; cases z⟩
  keep := fun i h h' st k => st.at fun o e => k it (by simp) o e
  item := by
    intro X hP hw hK hc i pins s σ H E I hf st hg
    subst hP hw hK
    obtain ⟨hi, xs, hq, hn⟩ := hg
    obtain ⟨its, rv, p, hz⟩ := I.tuple hq
    obtain ⟨x, hx⟩ : ∃ x, xs[n - 1 - i]? = some x := ⟨_, List.getElem?_eq_getElem (by omega)⟩
    obtain ⟨u, hu, ru⟩ := rv.get hx
    obtain ⟨f0, f1, f2, f3, f4, f5⟩ := hf it (by simp)
    have h63 := line63
    have hl := rv.length
    rw [show (n : Int) - 1 - (i : Nat) = ((n - 1 - i : Nat) : Int) by omega] at st
    refine rv_item st (show s.heap.IsTuple a its.toArray from p) (v := u) (by simpa using hu) (by rw [List.size_toArray]; omega) fun h' tk st' sb => ?_
    have I1 : Inv X pins σ H { s with heap := h', toks := tk } := I.turned (t' := tk) (fun b o hb e => (sb.2 b hb).trans e) f0 f1 f3 f4 f5
    rw [show ((n - 1 - i : Nat) : Int) - 1 = (n : Int) - 1 - ((i + 1 : Nat) : Int) by omega] at st'
    obtain ⟨o, e, c, d⟩ := id st'
    exact ⟨u, rfl, go_of (s := { s with heap := h', toks := tk }) e c d (by decide) ⟨x, H, I1, ru, ⟨rfl, fun ys hy => by rw [I.tuple_inj hy hq]; exact hx⟩, st', fun b hb => (hf b hb).1⟩⟩
  done := by
    intro X hP hw hK hc i pins s σ H E I hf st hg
    subst hP hw hK
    have hg : i = n := hg
    obtain ⟨f0, f1, f2, f3, f4, f5⟩ := hf it (by simp)
    rw [show (n : Int) - 1 - (i : Nat) = -1 by omega] at st
    exact rv_end (I.ok.hd hc) st fun h' eb => ⟨rfl, I.turned (t' := s.toks) (fun b o hb e => eb b o hb e) f0 f1 f3 f4 f5⟩
  self := fun _ _ _ _ _ st h => rv_self st h
def iRevT (K : PySem.W.Frag) (tl : TE) : TI := fun σ H R => tl σ H fun x H1 => ∃ a xs, x = .ref a ∧ SqT K H1 a xs ∧ R (Itv K a xs.length) H1
def only1V (R : V → Hp → Prop) : List V → Hp → Prop := fun vs H => match vs with
  | [l] => R l H
  | _ => False
theorem only1V.get {R : V → Hp → Prop} {vs : List V} {H : Hp} (h : only1V R vs H) : ∃ l, vs = [l] ∧ R l H := by
  match vs, h with
  | [l], h => exact ⟨l, rfl, h⟩
theorem boot_rev : bootBuiltins "reversed" = some (.type "reversed") := by decide +kernel
section
variable {X : Cx} {tg : Expr}
theorem pi_revT {l : Expr} {tl : TE} {p pos : Pos} (hg : Gl X "reversed") (hm : X.mg "reversed" = none) (hl : PE X l tl) (hse : starEach [l] X.env = [(false, eval l X.env)] := by rfl) : PI X tg (.Call (.Name "reversed" p) [l] [] pos) (iRevT X.K tl) := by
  intro pins s σ H R I h
  refine wpAny_Call_Name_kw (ld_blt I hg hm boot_rev ?_)
  have ha : PA X [l] (tCons tl tNil) := pa_cons hl pa_nil hse
  refine PyProof.Rows.callWith_type1 (thn (ha pos pins s σ H (only1V fun x H1 => ∃ a xs, x = .ref a ∧ SqT X.K H1 a xs ∧ R (Itv X.K a xs.length) H1) I (show tCons tl tNil σ H (only1V _) from h)) fun us s1 ⟨vs, H1, I1, r, q1⟩ => ?_) hse (by rfl)
  obtain ⟨x, rfl, a, xs, rfl, hq, q⟩ := q1.get
  obtain ⟨u, rfl, ru⟩ := vals1 r
  cases ru
  obtain ⟨its, rv, pt, hz⟩ := I1.tuple hq
  have h63 := line63
  have hl := rv.length
  refine call_rev (show s1.heap.IsTuple a its.toArray from pt) (by rw [List.size_toArray]; omega) fun tk => ?_
  have st : IsRv (s1.heap.push (rvO a ((its.toArray.size : Int) - 1))) s1.heap.objs.size a ((xs.length : Int) - 1 - ((0 : Nat) : Int)) := by
    refine ⟨_, Heap.get?_push_size _ rfl, rfl, ?_⟩
    rw [hl]
    simp [rvO]
  refine rv_self (s := { s1 with heap := s1.heap.push (rvO a ((its.toArray.size : Int) - 1)), toks := tk }) st ?_
  refine ⟨s1.heap.objs.size, [s1.heap.objs.size], _, _, H1, rfl, I1.kept (t' := tk) fun b o e => Heap.get?_push_of_some _ e, turn_rev a _ xs.length, st, fun b hb => ?_, q⟩
  have e : b = s1.heap.objs.size := by simpa using hb
  subst e
  exact I1.fpOk (Nat.le_refl _) (I1.hok.fresh (Nat.le_refl _))
end
end L2
namespace L2
open PySem
theorem comp_revT {K : PySem.W.Frag} {a : Addr} {xs : List V} {te : TE} {js : List Nat} {σ : St} {H1 : Hp} {Q : VK} {D : Addr} (f : Nat → V) (hn : xs.length ≤ sizeLine) (hl : ∀ acc, SqT K (upd H1 D (.lst acc)) a xs)
    (he : ∀ (i : Nat) (y : V) (acc : List V) (R : VK), xs.reverse[i]? = some y → R (f i) (upd H1 D (.lst acc)) → te (some y :: js.map fun j => (σ[j]?).getD none) (upd H1 D (.lst acc)) R)
    (hq : Q (.ref D) (upd H1 D (.lst ((List.range xs.length).map f)))) : CompW (Itv K a xs.length) (gName 0) tYes te js σ H1 Q D := by
  refine comp_seq (xs := xs.reverse) f (by rw [List.length_reverse]; exact hn) (fun i acc hi => ⟨by rw [List.length_reverse] at hi; exact hi, xs, hl acc, rfl⟩) (fun acc => by rw [List.length_reverse]; rfl) (fun i acc y H2 hi h => ⟨?_, h.1⟩) he (by rw [List.length_reverse]; exact hq)
  rw [List.length_reverse] at hi
  rw [List.getElem?_reverse hi]
  exact h.2 xs (hl acc)
end L2
namespace L2
open PySem PySem.Spec PyProof.Rows
def cSt2 (σ : St) (js : List Nat) : St := none :: none :: js.map fun j => (σ[j]?).getD none
structure CScope2 (S scope : Scope) (x x2 : Str) (N : List Str) (P : List Str) (js : List Nat) : Prop where
  kind : scope.kind = .function
  nocell : ∀ y ∈ scope.names, y.2 ≠ .cell
  loc : ∀ y ∈ scope.names, y.2 = .local → scope.names.lookup y.1 = some .local
  free : ∀ y ∈ scope.names, y.2 = .free → S.names.lookup y.1 = some .cell ∨ S.names.lookup y.1 = some .free
  own : scope.names.lookup x = some .local
  own2 : scope.names.lookup x2 = some .local
  nd : N.Nodup
  hd : N = x :: x2 :: (js.map fun j => (P[j]?).getD x)
  fr : ∀ j ∈ js, ∃ y, P[j]? = some y ∧ scope.names.lookup y = some .free
def csB2 (S scope : Scope) (x x2 : Str) (N P : List Str) (js : List Nat) : Bool :=
  (scope.kind == .function) && scope.names.all (fun y => !(y.2 == .cell)) && scope.names.all (fun y => !(y.2 == .local) || scope.names.lookup y.1 == some .local) &&
  scope.names.all (fun y => !(y.2 == .free) || (S.names.lookup y.1 == some .cell || S.names.lookup y.1 == some .free)) && (scope.names.lookup x == some .local) && (scope.names.lookup x2 == some .local) && decide N.Nodup && (N == x :: x2 :: (js.map fun j => (P[j]?).getD x)) &&
  js.all (fun j => match P[j]? with | some y => scope.names.lookup y == some .free | none => false)
theorem cs2_of {S scope : Scope} {x x2 : Str} {N P : List Str} {js : List Nat} (h : csB2 S scope x x2 N P js = true) : CScope2 S scope x x2 N P js := by
  unfold csB2 at h
  simp only [Bool.and_eq_true, List.all_eq_true, beq_iff_eq, decide_eq_true_eq, Bool.or_eq_true, Bool.not_eq_true'] at h
  obtain ⟨⟨⟨⟨⟨⟨⟨⟨h1, h2⟩, h3⟩, h4⟩, h5⟩, h5'⟩, h6⟩, h7⟩, h8⟩ := h
  refine ⟨h1, fun y hy e => ?_, fun y hy e => ?_, fun y hy e => ?_, h5, h5', h6, h7, fun j hj => ?_⟩
  · have := h2 y hy; rw [e] at this; exact absurd this (by decide)
  · rcases h3 y hy with z | z
    · rw [e] at z; exact absurd z (by decide)
    · exact z
  · rcases h4 y hy with z | z
    · rw [e] at z; exact absurd z (by decide)
    · exact z
  · have := h8 j hj
    split at this
    · rename_i y ey
      exact ⟨y, ey, by simpa using this⟩
    · cases this
section
variable {X : Cx} {pins : List (Addr × Obj)} {σ : St} {H : Hp} {s : Shared} {scope S : Scope} {cl : List (Str × Addr)} {C : Addr} {N : List Str} {fp : List Addr} {x x2 : Str} {js : List Nat}
theorem cxC_ok2 (I : Inv X pins σ H s) (Sc : CScope2 S scope x x2 N X.N js) (hC : s.heap.objs.size ≤ C) (h1 : ∀ y c, cl.lookup y = some c → X.env.cells.lookup y = some c)
    (h2 : ∀ y ∈ scope.names, y.2 = .free → ∃ c, cl.lookup y.1 = some c) (hfp : ∀ b ∈ fp, FpOk X pins H b) (hlt : ∀ b ∈ fp, b < s.heap.objs.size) : (cxC X scope cl C N fp s H).Ok where
  mod := I.ok.mod
  kind := Sc.kind
  glob := I.ok.glob
  blt := I.ok.blt
  above := hC
  inj := fun y z c e1 e2 => I.ok.inj y z c (h1 _ _ e1) (h1 _ _ e2)
  has := fun y hy => by
    have go : ∀ k, (scope.names.map (relF X.env)).lookup y = some k → (k = .cell ∨ k = .free) → ∃ c, cl.lookup y = some c := fun k e hk => by
      obtain ⟨k0, e0, hh⟩ := look_rel e
      have m := PySem.mem_of_lookup e0
      have hf : k0 = .free := by
        rcases hh with z | z
        · rcases hk with q | q
          · exact absurd (z.symm.trans q) (Sc.nocell _ m)
          · exact z.symm.trans q
        · exact z.1
      exact h2 (y, k0) m hf
    rcases hy with e | e
    · exact go _ e (.inl rfl)
    · exact go _ e (.inr rfl)
  cab := fun _ _ h => nomatch h
  hd := I.ok.hd
  frames := I.ok.frames
  stk := .inl rfl
  exf := fun b hb => ⟨Nat.ne_of_lt (Nat.lt_of_lt_of_le (hlt b hb) hC), fun y c e => (hfp b hb).2.2.2.2.1 y c (h1 _ _ e)⟩
  bs := fun b o e => I.bs b o e
  bsz := Nat.le_trans I.ok.bsz I.sz
  noex := fun b o e hb => by
    rcases (hfp b hb).2.2.2.1 with z | z
    · exact I.ok.noex b o e z
    · exact absurd (Nat.lt_of_lt_of_le (Heap.lt_size e) (Nat.le_trans I.ok.bsz z)) (Nat.lt_irrefl _)
  exfs := fun b hb hs => by
    rcases List.mem_cons.mp (I.stkSub b hs) with z | z
    · exact (hfp b hb).2.1 z
    · exact (hfp b hb).2.2.1 z
  funs := I.stack
  frf := I.stkFree
theorem cxC_inv2 (I : Inv X pins σ H s) (hS : X.env.scope = S) (Sc : CScope2 S scope x x2 N X.N js) (hC : s.heap.objs.size ≤ C) (h1 : ∀ y c, cl.lookup y = some c → X.env.cells.lookup y = some c)
    (h2 : ∀ y ∈ scope.names, y.2 = .free → ∃ c, cl.lookup y.1 = some c) (hfp : ∀ b ∈ fp, FpOk X pins H b) (hlt : ∀ b ∈ fp, b < s.heap.objs.size)
    {h4 : Heap} {tk : Nat} {m : Str → Option Value} (hns : h4.Ns C m) (hk : ∀ b o, s.heap.get? b = some o → h4.get? b = some o) :
    Inv (cxC X scope cl C N fp s H) [] (cSt2 σ js) H { s with heap := h4, toks := tk } := by
  refine ⟨cxC_ok2 I Sc hC h1 h2 hfp hlt, rfl, I.bare, Un.kept hk, ⟨m, hns, fun i y v hi hv hvis => ?_⟩, fun y c e => ?_, I.hok.fresh hC, fun y c e => I.freeC y c (h1 _ _ e), fun p hp => absurd (show p ∈ ([] : List (Addr × Obj)) from hp) (by simp), I.hok.kept hk, ?_⟩
  · cases i with
    | zero => exact absurd (show some (none : Option V) = some (some v) from hv) (by simp)
    | succ i' =>
     cases i' with
     | zero => exact absurd (show some (none : Option V) = some (some v) from hv) (by simp)
     | succ i =>
      have hi : N[i + 2]? = some y := hi
      rw [Sc.hd, List.getElem?_cons_succ, List.getElem?_cons_succ, List.getElem?_map] at hi
      have hv : (js.map fun j => (σ[j]?).getD none)[i]? = some (some v) := hv
      rw [List.getElem?_map] at hv
      cases ej : js[i]? with
      | none => rw [ej] at hv; cases hv
      | some j =>
        rw [ej] at hi hv
        have hv : (σ[j]?).getD none = some v := Option.some.inj hv
        have hi : (X.N[j]?).getD x = y := Option.some.inj hi
        obtain ⟨y', ey, hfr⟩ := Sc.fr j (List.mem_of_getElem? ej)
        rw [ey] at hi
        have hi : y' = y := hi
        subst hi
        have hσ : σ[j]? = some (some v) := by
          cases e : σ[j]? with
          | none => rw [e] at hv; cases hv
          | some o => rw [e] at hv; exact congrArg some hv
        have kX := Sc.free _ (PySem.mem_of_lookup hfr) rfl
        rw [← hS] at kX
        obtain ⟨mX, hnX, hl⟩ := I.loc
        obtain ⟨u, r, L⟩ := hl j y' v ey hσ (.inr kX)
        refine ⟨u, r, ?_⟩
        rcases L with ⟨kl, _⟩ | ⟨_, c, ec, z⟩
        · have kl : X.env.scope.names.lookup y' = some .local := kl
          rcases kX with q | q
          · rw [q] at kl; cases kl
          · rw [q] at kl; cases kl
        · obtain ⟨c', ec'⟩ := h2 _ (PySem.mem_of_lookup hfr) rfl
          have ecc : c' = c := Option.some.inj ((h1 _ _ ec').symm.trans ec)
          subst ecc
          obtain ⟨o, ho, hd⟩ := z
          refine .inr ⟨?_, c', ec', o, hk _ _ ho, hd⟩
          obtain ⟨k, e, hh⟩ := look_unrel (env := X.env) hfr
          rcases hh with q | q
          · exact .inr (show (scope.names.map (relF X.env)).lookup y' = some .free from q ▸ e)
          · exact .inl (show (scope.names.map (relF X.env)).lookup y' = some .cell from q.2 ▸ e)
  · obtain ⟨v, o, ho, hd⟩ := I.cell y c (h1 _ _ e)
    exact ⟨v, o, hk _ _ ho, hd⟩
  · show (cSt2 σ js).length = N.length
    rw [Sc.hd]
    simp [cSt2]
end
section
variable {X : Cx} {pins : List (Addr × Obj)} {σ : St} {H : Hp} {s : Shared} {scope S : Scope} {cl : List (Str × Addr)} {N : List Str} {fp : List Addr} {x x2 : Str} {js : List Nat}
def CompW2 (J : It) (g : TG) (tc : TT) (te : TE) (js : List Nat) (σ : St) (H1 : Hp) (Q : VK) (D : Addr) : Prop :=
  ∃ W : Nat → Nat → List V → St → Hp → Prop, (∃ m, W 0 m [] (cSt2 σ js) (upd H1 D (.lst []))) ∧ ∀ i m acc σ' H', W i m acc σ' H' → H' D = some (.lst acc) ∧
    ((J.stop i H' ∧ Q (.ref D) H') ∨ (J.go i H' ∧ acc.length < sizeLine ∧ ∀ y H2, J.yld i H' y H2 → g y σ' H2 fun σ3 H3 => tc σ3 H3 fun b H4 =>
      if b = true then te σ3 H4 fun z H5 => H5 D = some (.lst acc) ∧ ∃ m', m' < m ∧ W (i + 1) m' (acc ++ [z]) σ3 (upd H5 D (.lst (acc ++ [z])))
      else ∃ m', m' < m ∧ W (i + 1) m' acc σ3 H4))
def tComp2 (wi : TI) (g : TG) (tc : TT) (te : TE) (js : List Nat) : TE := fun σ H Q => wi σ H fun J H1 => ∀ D, H1 D = none → CompW2 J g tc te js σ H1 Q D
theorem comp_block2 {E : Value → Shared → Prop} {elt iter tg : Expr} {ifs : List Expr} {pos : Pos} {J : It} {tn : Nat → Heap → Prop} {it : Addr} {g : TG} {tc : TT} {te : TE} {Q : VK} {RR : Value → Addr → Result → Shared → Prop}
    (hc : X.calm = true) (I2 : Inv X pins σ H s) (hS : X.env.scope = S) (Sc : CScope2 S scope x x2 N X.N js) (h1 : ∀ y c, cl.lookup y = some c → X.env.cells.lookup y = some c)
    (h2 : ∀ y ∈ scope.names, y.2 = .free → ∃ c, cl.lookup y.1 = some c) (T : Turn X.prog X.w X.K tg J fp it tn) (st2 : tn 0 s.heap) (f2 : ∀ b ∈ fp, FpOk X pins H b)
    (hg : ∀ cl C fp s H, PG (cxC X scope cl C N fp s H) tg g) (ht : ∀ cl C fp s H, PTs (cxC X scope cl C N fp s H) ifs tc) (he : ∀ cl C fp s H, PE (cxC X scope cl C N fp s H) elt te)
    (q : ∀ D, H D = none → CompW2 J g tc te js σ H Q D)
    (hRR : ∀ D C H' s', Inv X pins σ H' s' → FpOk X pins H' C → (∃ m, s'.heap.Ns C m) → Q (.ref D) H' → RR (.ref D) C (.ok .next) s') :
    wpAny (model X.prog X.w) X.A (newList []) (fun acc s₃ => wpAny (model X.prog X.w) X.A (newFunctionEnv scope X.env.globals cl [] X.env.qual none .none (some X.env)) (fun cenv s₄ =>
      codeAny (model X.prog X.w) X.A (.compStart (.ListComp elt [⟨tg, iter, ifs, 0⟩] scope pos) 0 (.ref it) acc { cenv with scope := relabel scope X.env }) (RR acc cenv.locals) s₄) E s₃) E s := by
  refine wpAny_newObj_type (wpAny_newFunctionEnv Sc.nocell (by intro y hy; simp at hy) (fun h₁ hns₁ hsb₁ => ?_) Sc.kind)
  dsimp only at hns₁ hsb₁ ⊢
  have I3 : Inv X pins σ (upd H s.heap.objs.size (.lst [])) { s with heap := s.heap.push { cls := .type "list", dict := none, data := .seq ([] : List Value).toArray } } := I2.lnew (its := []) (t' := s.toks) .nil (Nat.zero_le _)
  have hD0 : H s.heap.objs.size = none := I2.hok.fresh (Nat.le_refl _)
  obtain ⟨W, ⟨m0, w0⟩, turn⟩ := q s.heap.objs.size hD0
  generalize hHP : s.heap.push { cls := .type "list", dict := none, data := .seq ([] : List Value).toArray } = HP at hns₁ hsb₁ I3 ⊢
  have hsz : HP.objs.size = s.heap.objs.size + 1 := by rw [← hHP, Heap.size_push]
  have kp : ∀ b o, HP.get? b = some o → h₁.get? b = some o := fun b o e => hsb₁.extBut b o (Nat.ne_of_lt (Heap.lt_size e)) (Heap.get?_push_of_some _ e)
  have lt2 : ∀ b ∈ fp, b < s.heap.objs.size := fun b hb => by
    obtain ⟨o, e, _⟩ := T.obj 0 _ st2 b hb
    exact Heap.lt_size e
  have f3 : ∀ b ∈ fp, FpOk X pins (upd H s.heap.objs.size (.lst [])) b := fun b hb => ⟨by rw [upd_ne (Nat.ne_of_lt (lt2 b hb))]; exact (f2 b hb).1, (f2 b hb).2⟩
  have lt3 : ∀ b ∈ fp, b < HP.objs.size := fun b hb => by rw [hsz]; exact Nat.lt_succ_of_lt (lt2 b hb)
  have IB : Inv (cxC X scope cl HP.objs.size N fp { s with heap := HP } (upd H s.heap.objs.size (.lst []))) [] (cSt2 σ js) (upd H s.heap.objs.size (.lst [])) { s with heap := h₁, toks := s.toks + ([] : List (Str × Value)).length } :=
    cxC_inv2 (s := { s with heap := HP }) I3 hS Sc (Nat.le_refl _) h1 h2 f3 lt3 hns₁ kp
  have st1 : tn 0 h₁ := T.keep 0 _ _ st2 fun b _ o e => kp b o (by rw [← hHP]; exact Heap.get?_push_of_some _ e)
  have loop : codeAny (model X.prog X.w) X.A (.compLoop (.ListComp elt [⟨tg, iter, ifs, 0⟩] scope pos) 0 (.ref it) (.ref s.heap.objs.size) (compEnvC scope cl HP.objs.size X.env))
      (RR (.ref s.heap.objs.size) HP.objs.size) { s with heap := h₁, toks := s.toks + ([] : List (Str × Value)).length } := by
    have stat : ∀ {H' : Hp}, (∀ b ∈ fp, H' b = none) → ∀ b ∈ fp, FpOk (cxC X scope cl HP.objs.size N fp { s with heap := HP } (upd H s.heap.objs.size (.lst []))) [] H' b := fun {H'} hn b hb =>
      ⟨hn b hb, Nat.ne_of_lt (lt3 b hb), fun hs => by
        rcases List.mem_cons.mp (I3.stkSub b hs) with z | z
        · exact (f3 b hb).2.1 z
        · exact (f3 b hb).2.2.1 z, .inl hb, fun y c e => (f3 b hb).2.2.2.2.1 y c (h1 _ _ e), fun p hp => absurd (show p ∈ ([] : List (Addr × Obj)) from hp) (by simp)⟩
    refine compLoop_go (fun n s' => ∃ i acc σ' H', Inv (cxC X scope cl HP.objs.size N fp { s with heap := HP } (upd H s.heap.objs.size (.lst []))) [] σ' H' s' ∧ tn i s'.heap ∧ (∀ b ∈ fp, H' b = none) ∧ W i n acc σ' H') ?_ m0
      ⟨0, [], _, _, IB, st1, fun b hb => (f3 b hb).1, w0⟩
    rintro n s5 ⟨i, acc, σ5, H5, I5, st5, fr5, w5⟩
    obtain ⟨hD, alt⟩ := turn i n acc σ5 H5 w5
    rcases alt with ⟨stop, qn⟩ | ⟨go, hz, step⟩
    · refine thn (T.done (cxC X scope cl HP.objs.size N fp { s with heap := HP } (upd H s.heap.objs.size (.lst []))) rfl rfl rfl hc i [] s5 σ5 H5 _ I5 (stat fr5) st5 stop) fun r s6 ⟨hr, I6⟩ => ?_
      subst hr
      have hfin : Inv X pins σ H5 s6 := I3.call' (ch := fp) I6.os I6.base I6.hok I6.bare fun b hb => ⟨(f3 b hb).2.2.2.1, (f3 b hb).2.1, (f3 b hb).2.2.2.2.1, (f3 b hb).2.2.2.2.2⟩
      obtain ⟨m, hm, _⟩ := I6.loc
      exact hRR _ _ H5 s6 hfin (I3.fpOk (Nat.le_refl _) I6.free) ⟨m, hm⟩ qn
    · refine thn (T.item (cxC X scope cl HP.objs.size N fp { s with heap := HP } (upd H s.heap.objs.size (.lst []))) rfl rfl rfl hc i [] s5 σ5 H5 _ I5 (stat fr5) st5 go) fun r s6 ⟨u, hr, h6⟩ => ?_
      subst hr
      refine thn h6 fun _ s7 ⟨y, H7, I7, r7, y7, st7, fr7⟩ => ?_
      have I7' := I7.pinned (stat fr7) (T.obj _ _ st7)
      refine thn (hg _ _ _ _ _ _ s7 σ5 H7 y u _ I7' r7 (step y H7 y7)) fun _ s8 ⟨σ8, H8, I8, q8⟩ => ?_
      have keepIt : ∀ {σ' : St} {H' : Hp} {s' : Shared}, Inv (cxC X scope cl HP.objs.size N fp { s with heap := HP } (upd H s.heap.objs.size (.lst []))) ([] ++ pinsAt fp s7.heap) σ' H' s' → tn (i + 1) s'.heap ∧ ∀ b ∈ fp, H' b = none := fun {σ' H' s'} J' =>
        ⟨T.keep _ _ _ st7 fun b hb o e => (J'.pin (b, o) (List.mem_append_right _ (List.mem_append_right _ (mem_pinsAt hb e)))).1, fun b hb => by
          obtain ⟨o, e, _⟩ := T.obj _ _ st7 b hb
          exact (J'.pin (b, o) (List.mem_append_right _ (List.mem_append_right _ (mem_pinsAt hb e)))).2.1⟩
      refine thn (ht _ _ _ _ _ _ s8 σ8 H8 _ I8 q8) fun ok s9 ⟨H9, I9, q9⟩ => ?_
      cases ok with
      | false =>
        obtain ⟨m', hm, w9⟩ := q9
        obtain ⟨t9, n9⟩ := keepIt I9
        exact ⟨m', hm, i + 1, acc, σ8, H9, I9.unpinned, t9, n9, w9⟩
      | true =>
        refine thn (he _ _ _ _ _ _ s9 σ8 H9 _ I9 q9) fun v s10 ⟨z, H10, I10, r10, hD10, m', hm, w10⟩ => ?_
        refine thn (mt_append _ s10 σ8 H10 (.ref s.heap.objs.size) [z] (.ref s.heap.objs.size) [v] (fun _ H11 => ∃ m', m' < n ∧ W (i + 1) m' (acc ++ [z]) σ8 H11) I10 rfl (.cons r10 .nil) ⟨_, acc, z, rfl, rfl, hD10, hz, m', hm, w10⟩) fun _ s11 ⟨_, H11, I11, _, m2, hm2, w11⟩ => ?_
        obtain ⟨t11, n11⟩ := keepIt I11
        exact ⟨m2, hm2, i + 1, acc ++ [z], σ8, H11, I11.unpinned, t11, n11, w11⟩
  exact codeAny_compStart_list loop (T.self _ 0 _ _ _ st1 loop)
variable {elt iter tg : Expr} {ifs : List Expr} {pos : Pos} {wi : TI} {g : TG} {tc : TT} {te : TE}
theorem pe_comp2 (hS : X.env.scope = S) (Sc : CScope2 S scope x x2 N X.N js) (hc : X.calm = true) (hi : PI X tg iter wi)
    (hg : ∀ cl C fp s H, PG (cxC X scope cl C N fp s H) tg g) (ht : ∀ cl C fp s H, PTs (cxC X scope cl C N fp s H) ifs tc) (he : ∀ cl C fp s H, PE (cxC X scope cl C N fp s H) elt te)
    (hs : ∀ x, foldedSetIterable iter X.env x = pure x := by intro _; rfl) : PE X (.ListComp elt [⟨tg, iter, ifs, 0⟩] scope pos) (tComp2 wi g tc te js) := by
  intro pins s σ H Q I h
  obtain ⟨cl, hcl, h1, h2⟩ := closure_of (scope := scope) (env := X.env) fun y hy hf => I.ok.has y.1 (by have := Sc.free y hy hf; rw [← hS] at this; exact this)
  rw [eval_ListComp]
  refine wpAny_comprehension_free (use := none) rfl hs hcl Sc.kind Sc.loc (thn (hi pins s σ H _ I h) fun xv s1 h1' => thn h1' fun itv s2 h2' => ?_)
  obtain ⟨it, fp, tn, J, H2, rfl, I2, T, st2, f2, q⟩ := h2'
  refine comp_block2 (RR := fun acc C => compPost (model X.prog X.w) X.A X.xe none (EP X pins σ Q) acc C) hc I2 hS Sc h1 h2 T st2 f2 hg ht he q ?_
  rintro D C H' s' I' f' ⟨m, hm⟩ qD
  exact ⟨m, hm, fun h' hs' => ⟨.ref D, H', I'.turned (t' := s'.toks) (fun b o hb e => (hs'.2 b hb).trans e) f'.1 f'.2.1 f'.2.2.2.1 f'.2.2.2.2.1 f'.2.2.2.2.2, rfl, qD⟩⟩
end
theorem comp_pairs {K : PySem.W.Frag} {J : It} {n : Nat} {te : TE} {js : List Nat} {σ : St} {H1 : Hp} {Q : VK} {D : Addr} (P : Nat → List V → Hp → Prop) (h0 : P 0 [] (upd H1 D (.lst []))) (hD : ∀ i acc H', P i acc H' → H' D = some (.lst acc) ∧ acc.length = i) (hn : n ≤ sizeLine)
    (hgo : ∀ i acc H', i < n → P i acc H' → J.go i H') (hst : ∀ acc H', P n acc H' → J.stop n H' ∧ Q (.ref D) H')
    (hstep : ∀ i acc H' y H2, i < n → P i acc H' → J.yld i H' y H2 → ∃ p a b, y = .ref p ∧ SqT K H2 p [a, b] ∧ ∀ R : VK, (∀ z H5, H5 D = some (.lst acc) → P (i + 1) (acc ++ [z]) (upd H5 D (.lst (acc ++ [z]))) → R z H5) →
      te (some a :: some b :: js.map fun j => (σ[j]?).getD none) H2 R) :
    CompW2 J (gTup K 2 (gCons (gName 0) (gCons (gName 1) gNil))) tYes te js σ H1 Q D := by
  refine ⟨fun i m acc σ' H' => m = n - i ∧ i ≤ n ∧ P i acc H' ∧ ∃ v v', σ' = v :: v' :: js.map fun j => (σ[j]?).getD none, ⟨n, by simp, Nat.zero_le _, h0, none, none, rfl⟩, ?_⟩
  rintro i m acc σ' H' ⟨rfl, hi, hP, v, v', rfl⟩
  refine ⟨(hD i acc H' hP).1, ?_⟩
  by_cases hlt : i < n
  · refine .inr ⟨hgo i acc H' hlt hP, by have := (hD i acc H' hP).2; omega, fun y H2 hy => ?_⟩
    obtain ⟨p, a, b, e, hs, ht⟩ := hstep i acc H' y H2 hlt hP hy
    exact ⟨p, [a, b], e, hs, rfl, a, [b], rfl, b, [], rfl, rfl, ht _ fun z H5 e1 e2 => ⟨e1, n - (i + 1), by omega, rfl, hlt, e2, _, _, rfl⟩⟩
  · have e : i = n := by omega
    subst e
    exact .inl (hst acc H' hP)
end L2
namespace L2
open PySem PySem.Spec PyProof.Rows
section
variable {X : Cx}
def tLinks : List (R2 × TE) → V → St → Hp → (Bool → Hp → Prop) → Prop
  | [], _, _, H, Q => Q true H
  | [(r, t)], x, σ, H, Q => t σ H fun y H1 => r x y H1 fun z H2 => ∃ k, z = .bl k ∧ Q k H2
  | (r, t) :: l :: ls, x, σ, H, Q => t σ H fun y H1 => r x y H1 fun z H2 => ∃ k, z = .bl k ∧ (if k = true then tLinks (l :: ls) y σ H2 Q else Q false H2)
inductive Links (X : Cx) : List CmpOp → List PySem.Expr → List (R2 × TE) → Prop
  | one {op : CmpOp} {r : R2} {b : PySem.Expr} {t : TE} : OpR X (compareOp op) r → PE X b t → Links X [op] [b] [(r, t)]
  | cons {op op' : CmpOp} {ops : List CmpOp} {r : R2} {b b' : PySem.Expr} {bs : List PySem.Expr} {t : TE} {l : R2 × TE} {ls : List (R2 × TE)} : OpR X (compareOp op) r → PE X b t → Links X (op' :: ops) (b' :: bs) (l :: ls) → Links X (op :: op' :: ops) (b :: b' :: bs) ((r, t) :: l :: ls)
theorem links_test {ops : List CmpOp} {bs : List PySem.Expr} {ls : List (R2 × TE)} (L : Links X ops bs ls) : ∀ {pos : Pos} {pins : List (Addr × Obj)} {s : Shared} {σ : St} {H : Hp} {x : V} {v : Value} {Q : Bool → Hp → Prop}, Inv X pins σ H s → RelV x v → tLinks ls x σ H Q →
    wpAny (model X.prog X.w) X.A (testChain pos v ops (evalEach bs X.env)) (TP X pins σ Q) X.xe s := by
  induction L with
  | @one op r b t ho hb =>
    intro pos pins s σ H x v Q I rx h
    refine test_last (thn (hb pins s σ H _ I h) fun u s1 ⟨y, H1, I1, ry, q⟩ => thn (ho pins s1 σ H1 x y v u _ I1 rx ry q) fun d s2 ⟨z, H2, I2, rz, k, e, q2⟩ => ?_)
    subst e
    cases rz
    exact wpAny_truthy_bool ⟨H2, I2, q2⟩
  | @cons op op' ops r b b' bs t l ls ho hb hl ih =>
    intro pos pins s σ H x v Q I rx h
    refine test_link (thn (hb pins s σ H _ I h) fun u s1 ⟨y, H1, I1, ry, q⟩ => thn (ho pins s1 σ H1 x y v u _ I1 rx ry q) fun d s2 ⟨z, H2, I2, rz, k, e, q2⟩ => ?_)
    subst e
    cases rz
    refine wpAny_truthy_bool ?_
    cases k with
    | false => exact ite_ff ⟨H2, I2, q2⟩
    | true => exact ite_tt (ih I2 ry q2)
def tChainN (ta : TE) (ls : List (R2 × TE)) : TT := fun σ H Q => ta σ H fun x H1 => tLinks ls x σ H1 Q
theorem pt_chainN {a b b' : PySem.Expr} {bs : List PySem.Expr} {op op' : CmpOp} {ops : List CmpOp} {ta : TE} {ls : List (R2 × TE)} {pos : Pos} (ha : PE X a ta) (L : Links X (op :: op' :: ops) (b :: b' :: bs) ls)
    (hm : lastMarks (op :: op' :: ops) (b :: b' :: bs) = false := by with_unfolding_all rfl) : PT X (.Compare a (op :: op' :: ops) (b :: b' :: bs) pos) (tChainN ta ls) := by
  intro pins s σ H Q I h
  exact isTrue_chain (thn (ha pins s σ H _ I h) fun v s1 ⟨x, H1, I1, rx, q⟩ => links_test L I1 rx q) hm
end
end L2
namespace L2
open PySem
theorem if_leaf {t : TT} {s1 s2 : TS} {D : Ends} {σ : St} {H : Hp} (A : Bool → Prop) (ht : ∀ Q : Bool → Hp → Prop, (∀ c, A c → Q c H) → t σ H Q) (h1 : A true → s1 D σ H) (h0 : A false → s2 D σ H) : tIfS t s1 s2 D σ H :=
  ht _ fun c hc => by
    cases c with
    | true => exact iteT (h1 hc)
    | false => exact iteF (h0 hc)
end L2
namespace Tn
open L2 PySem
def ordK (k : Bool) (m : Nat) : List Int := if k then upto m else (upto m).reverse
theorem rows_at : ∀ (ps : List Nest) (f : Int) (i : Nat) (n : Nest), ps[i]? = some n → (rowsN ps f)[i]? = some ((rowN n 0).map fun z => (f + before (ps.map fun n => rowN n 0) i) + z)
  | [], _, _, _, h => by simp at h
  | m :: r, f, 0, n, h => by
    have e : m = n := by simpa using h
    subst e
    rw [rowsN, before_zero]
    have := row_shift m 0 f
    rw [Int.zero_add] at this
    simp only [List.getElem?_cons_zero, Option.some.injEq]
    rw [this]
    exact List.map_congr_left fun z _ => by omega
  | m :: r, f, i + 1, n, h => by
    rw [rowsN, List.getElem?_cons_succ, rows_at r _ i n (by simpa using h)]
    have hl : (rowN m f).length = (rowN m 0).length := by
      have := row_shift m 0 f
      rw [Int.zero_add] at this
      rw [this, List.length_map]
    have hb : before ((m :: r).map fun n => rowN n 0) (i + 1) = ((rowN m 0).length : Int) + before (r.map fun n => rowN n 0) i := by
      unfold before lens
      simp
    rw [hb, hl]
    congr 1
    exact List.map_congr_left fun z _ => by omega
theorem rows_all (ps : List Nest) : rowsN ps 0 = (List.range ps.length).map fun i => ((ps.map fun n => rowN n 0).getD i []).map fun z => before (ps.map fun n => rowN n 0) i + z := by
  apply List.ext_getElem?
  intro i
  rw [List.getElem?_map]
  by_cases h : i < ps.length
  · rw [rows_at ps 0 i ps[i] (List.getElem?_eq_getElem h), List.getElem?_range h]
    simp only [Option.map_some, Option.some.injEq]
    rw [List.getD_eq_getElem?_getD, List.getElem?_map, List.getElem?_eq_getElem h]
    simp
  · have hl : (rowsN ps 0).length = ps.length := by
      have : ∀ (ps : List Nest) (f : Int), (rowsN ps f).length = ps.length := fun ps => by
        induction ps with
        | nil => intro f; rw [rowsN]; rfl
        | cons n r ih => intro f; rw [rowsN, List.length_cons, ih, List.length_cons]
      exact this ps 0
    rw [List.getElem?_eq_none (by omega), List.getElem?_eq_none (by rw [List.length_range]; omega)]
    rfl
theorem tog_row (k : Bool) (ps : List Nest) : togF (ordK k ps.length) (ps.map fun n => rowN n 0) = rowN (.knot k ps) 0 := by
  rw [rowN, rows_all]
  unfold togF ordK upto
  cases k with
  | true =>
    rw [if_pos rfl, if_pos rfl, List.flatMap_def, List.map_map]
    rfl
  | false =>
    rw [if_neg (by decide), if_neg (by decide), List.flatMap_def, ← List.map_reverse, ← List.map_reverse, List.map_map]
    rfl
theorem ordK_len (k : Bool) (m : Nat) : (ordK k m).length = m := by
  unfold ordK
  cases k <;> simp [upto]
theorem ordK_mem {k : Bool} {m : Nat} {w : Int} (h : w ∈ ordK k m) : 0 ≤ w ∧ w < (m : Int) := by
  have h2 : w ∈ upto m := by
    unfold ordK at h
    cases k
    · simpa using h
    · simpa using h
  unfold upto at h2
  rw [List.mem_map] at h2
  obtain ⟨i, hi, rfl⟩ := h2
  rw [List.mem_range] at hi
  omega
theorem lens_words : ∀ {ps : List Nest} {k : Bool}, validL k ps = true → (lens (ps.map fun n => rowN n 0)).sum = (wordsL ps : Int)
  | [], _, _ => by simp [lens, wordsL]
  | n :: r, k, h => by
    have h1 := row_len 0 (validL_get h (i := 0) (n := n) rfl)
    have h2 : validL k r = true := by simp only [validL, Bool.and_eq_true] at h; exact h.2
    have := lens_words h2
    unfold lens at this ⊢
    simp only [List.map_cons, List.sum_cons, wordsL]
    rw [this, h1]
    omega
def spOrderOf (K : PySem.W.Frag) (d : Nat) : Sp := fun vs H Q _ => ∃ (v : V) (n : Nest) (o : Option Bool), vs = [v] ∧ NestAt K H n v ∧ valid o n = true ∧ depthN n < d ∧ words n ≤ 60 ∧ ∀ (t : Addr) (H' : Hp), H t = none → H' t = some (.tup ((rowN n 0).map V.int)) → Same H H' → Q (.ref t) H'
end Tn
namespace Tn
open L2 PySem
def rSortL (K : PySem.W.Frag) : List V → Hp → VK → Prop := fun xs H Q => ∃ (p : Addr) (ns : List Int), xs = [.ref p] ∧ SqL K H p (ns.map V.int) ∧ ns.length < 64 ∧ ∀ (ns' : List Int) (l : Addr), ns'.Perm ns → ns'.Pairwise (· ≤ ·) → H l = none → Q (.ref l) (upd H l (.lst (ns'.map V.int)))
theorem call_sortedLK {X : Cx} : CallR X (.builtin "sorted") (rSortL X.K) := call_sortedL
end Tn
namespace Tn
theorem ranks_down {a b c d : Int} (h1 : c < a) (h2 : a < d) (h3 : d < b) : [a, b, c, d].Nodup ∧ [a, b, c, d].map (rank [a, b, c, d]) = [1, 3, 0, 2] := by
  refine ⟨by simp; omega, ?_⟩
  unfold rank
  simp [List.filter_cons, h1, h2, h3, show ¬ a < c by omega, show ¬ d < a by omega, show ¬ b < d by omega, show ¬ b < a by omega, show a < b by omega, show c < b by omega, show ¬ b < c by omega, show c < d by omega, show ¬ d < c by omega]
theorem ranks_up {a b c d : Int} (h1 : b < d) (h2 : d < a) (h3 : a < c) : [a, b, c, d].Nodup ∧ [a, b, c, d].map (rank [a, b, c, d]) = [2, 0, 3, 1] := by
  refine ⟨by simp; omega, ?_⟩
  unfold rank
  simp [List.filter_cons, h1, h2, h3, show ¬ d < b by omega, show ¬ a < d by omega, show ¬ c < a by omega, show ¬ a < b by omega, show b < a by omega, show b < c by omega, show ¬ c < b by omega, show d < c by omega, show ¬ c < d by omega]
end Tn
namespace Tn
theorem getD_some {l : List Int} {i : Nat} {w : Int} (h : l[i]? = some w) : l.getD i 0 = w := by rw [List.getD_eq_getElem?_getD, h]; rfl
theorem no_bar_told {ord : List Int} (h : ∀ i j k l, ¬ BarAt ord i j k l ∧ ¬ BarUp ord i j k l) : ¬ HasBar ord := by
  rintro ⟨i, j, k, m, w, x, y, z, h1, h2, h3, e1, e2, e3, e4, hb⟩
  have hm : m < ord.length := (List.getElem?_eq_some_iff.mp e4).1
  rcases hb with ⟨b1, b2, b3⟩ | ⟨b1, b2, b3⟩
  · first
      | exact (h i j k m).1 ⟨h1, h2, h3, hm, by rw [getD_some e1, getD_some e3]; omega, by rw [getD_some e1, getD_some e4]; omega, by rw [getD_some e2, getD_some e4]; omega⟩
      | exact (h i j k m).2 ⟨h1, h2, h3, hm, by rw [getD_some e2, getD_some e4]; omega, by rw [getD_some e1, getD_some e4]; omega, by rw [getD_some e1, getD_some e3]; omega⟩
  · first
      | exact (h i j k m).1 ⟨h1, h2, h3, hm, by rw [getD_some e1, getD_some e3]; omega, by rw [getD_some e1, getD_some e4]; omega, by rw [getD_some e2, getD_some e4]; omega⟩
      | exact (h i j k m).2 ⟨h1, h2, h3, hm, by rw [getD_some e2, getD_some e4]; omega, by rw [getD_some e1, getD_some e4]; omega, by rw [getD_some e1, getD_some e3]; omega⟩
theorem bar_told {ord : List Int} {i j k l : Nat} (h : BarAt ord i j k l ∨ BarUp ord i j k l) : HasBar ord := by
  have g : ∀ {m : Nat}, m < ord.length → ord[m]? = some (ord.getD m 0) := fun {m} hm => by rw [List.getD_eq_getElem?_getD, List.getElem?_eq_getElem hm]; rfl
  rcases h with ⟨h1, h2, h3, h4, h5, h6, h7⟩ | ⟨h1, h2, h3, h4, h5, h6, h7⟩
  · refine ⟨i, j, k, l, _, _, _, _, h1, h2, h3, g (by omega), g (by omega), g (by omega), g (by omega), ?_⟩
    first | exact .inl ⟨h5, h6, h7⟩ | exact .inr ⟨h5, h6, h7⟩
  · refine ⟨i, j, k, l, _, _, _, _, h1, h2, h3, g (by omega), g (by omega), g (by omega), g (by omega), ?_⟩
    first | exact .inl ⟨h5, h6, h7⟩ | exact .inr ⟨h5, h6, h7⟩
end Tn
namespace Tn
open L2 PySem
def dropF (ord : List Int) (w : Int) : List Int := (ord.filter fun v => decide (v ≠ w)).map fun v => v - if v > w then 1 else 0
def liftF (ord : List Int) (w : Int) : List Int := ord.map fun v => v + if w ≤ v then 1 else 0
def putF (ord : List Int) (p : Nat) (w : Int) : List Int := (liftF ord w).take p ++ [w] ++ (liftF ord w).drop p
theorem rank_nil_below {ws : List Int} (h : ∀ v ∈ ws, 0 ≤ v) : rank ws 0 = 0 := by
  unfold rank
  rw [List.length_eq_zero_iff, List.filter_eq_nil_iff]
  intro v hv
  have := h v hv
  simp
  omega
theorem rank_all_but {ws : List Int} {w : Int} {n : Nat} (nd : ws.Nodup) (hm : ∀ v, v ∈ ws ↔ (0 ≤ v ∧ v < (n : Int)) ∧ v ≠ w) (hw : 0 ≤ w) : ∀ j : Nat, j ≤ n → (rank ws (j : Int) : Int) = (j : Int) - if (j : Int) > w then 1 else 0
  | 0, _ => by
    rw [show ((0 : Nat) : Int) = 0 from rfl, rank_nil_below fun v hv => ((hm v).mp hv).1.1, if_neg (by omega)]
    rfl
  | j + 1, h => by
    have ih := rank_all_but nd hm hw j (by omega)
    rw [show ((j + 1 : Nat) : Int) = (j : Int) + 1 by omega, rank_succ nd]
    have e : ((j : Int) ∈ ws) ↔ (j : Int) ≠ w := by
      rw [hm]
      exact ⟨fun z => z.2, fun z => ⟨by omega, z⟩⟩
    by_cases hj : (j : Int) = w
    · rw [if_neg (by rw [e]; exact fun z => z hj), if_pos (by omega)]
      rw [if_neg (by omega)] at ih
      omega
    · rw [if_pos (e.mpr hj)]
      by_cases h2 : (j : Int) > w
      · rw [if_pos h2] at ih
        rw [if_pos (by omega)]
        omega
      · rw [if_neg h2] at ih
        rw [if_neg (by omega)]
        omega
theorem left_drop {ord ws : List Int} {w : Int} (hO : IsOrd ord) (nd : ws.Nodup) (hm : ∀ v, v ∈ ws ↔ (0 ≤ v ∧ v < (ord.length : Int)) ∧ v ≠ w) (hw : 0 ≤ w) : leftF ord ws = dropF ord w := by
  unfold leftF dropF
  have e : (ord.filter fun v => decide (v ∈ ws)) = ord.filter fun v => decide (v ≠ w) := by
    refine List.filter_congr fun v hv => ?_
    have := hO.mem.mp hv
    simp only [decide_eq_decide]
    rw [hm]
    exact ⟨fun z => z.2, fun z => ⟨this, z⟩⟩
  rw [e]
  refine List.map_congr_left fun v hv => ?_
  have h1 := hO.mem.mp (List.mem_filter.mp hv).1
  have := rank_all_but nd hm hw v.toNat (by omega)
  rw [show ((v.toNat : Nat) : Int) = v by omega] at this
  exact this
def butF (n : Nat) (w : Int) : List Int := (upto n).filter fun v => decide (v ≠ w)
theorem mem_but {n : Nat} {w v : Int} : v ∈ butF n w ↔ (0 ≤ v ∧ v < (n : Int)) ∧ v ≠ w := by
  unfold butF
  rw [List.mem_filter, mem_upto, decide_eq_true_eq]
theorem but_nodup (n : Nat) (w : Int) : (butF n w).Nodup := (upto_nodup n).filter _
theorem but_len {n : Nat} {w : Int} (h0 : 0 ≤ w) (h1 : w < (n : Int)) : (butF n w).length + 1 = n := by
  have hp : (upto n).Perm (w :: butF n w) := by
    refine (List.perm_ext_iff_of_nodup (upto_nodup n) (List.nodup_cons.mpr ⟨fun z => (mem_but.mp z).2 rfl, but_nodup n w⟩)).mpr fun v => ?_
    rw [mem_upto, List.mem_cons, mem_but]
    constructor
    · intro z
      by_cases e : v = w
      · exact .inl e
      · exact .inr ⟨z, e⟩
    · rintro (rfl | z)
      · omega
      · exact z.1
  have := hp.length_eq
  rw [upto_len, List.length_cons] at this
  omega
theorem drop_ord {ord : List Int} {w : Int} (hO : IsOrd ord) (h0 : 0 ≤ w) (h1 : w < (ord.length : Int)) : IsOrd (dropF ord w) ∧ (dropF ord w).length + 1 = ord.length := by
  have hb : ∀ v ∈ butF ord.length w, v ∈ ord := fun v hv => hO.mem.mpr (mem_but.mp hv).1
  obtain ⟨a, b⟩ := left_ord hO (but_nodup ord.length w) hb
  rw [left_drop hO (but_nodup _ _) (fun v => mem_but) h0] at a b
  exact ⟨a, by rw [b]; exact but_len h0 h1⟩
theorem drop_put {ord : List Int} {p : Nat} {w : Int} : dropF (putF ord p w) w = ord := by
  have e1 : ∀ l : List Int, (∀ v ∈ l, v ≠ w) → (l.filter fun v => decide (v ≠ w)) = l := fun l hl => List.filter_eq_self.mpr fun v hv => by simpa using hl v hv
  have hne : ∀ v ∈ liftF ord w, v ≠ w := fun v hv => by
    unfold liftF at hv
    rw [List.mem_map] at hv
    obtain ⟨u, _, rfl⟩ := hv
    split <;> omega
  unfold dropF putF
  rw [List.filter_append, List.filter_append, e1 _ fun v hv => hne v (List.mem_of_mem_take hv), e1 _ fun v hv => hne v (List.mem_of_mem_drop hv), List.filter_cons_of_neg (by simp), List.filter_nil, List.append_nil, List.take_append_drop]
  unfold liftF
  rw [List.map_map]
  have : ∀ v : Int, ((fun v : Int => v - if v > w then 1 else 0) ∘ fun v => v + if w ≤ v then 1 else 0) v = v := fun v => by
    simp only [Function.comp]
    split <;> split <;> omega
  rw [List.map_congr_left fun v _ => this v]
  simp
theorem put_len {ord : List Int} {p : Nat} {w : Int} (hp : p ≤ ord.length) : (putF ord p w).length = ord.length + 1 := by
  unfold putF liftF
  simp
  omega
theorem put_ord {ord : List Int} {p : Nat} {w : Int} (hO : IsOrd ord) (hp : p ≤ ord.length) (h0 : 0 ≤ w) (h1 : w ≤ (ord.length : Int)) : IsOrd (putF ord p w) := by
  have hpm : (putF ord p w).Perm (w :: liftF ord w) := by
    unfold putF
    rw [List.append_assoc]
    refine (List.perm_middle (a := w) (l₁ := (liftF ord w).take p) (l₂ := (liftF ord w).drop p)).trans ?_
    rw [List.take_append_drop]
  have nd : (w :: liftF ord w).Nodup := by
    rw [List.nodup_cons]
    constructor
    · unfold liftF
      rw [List.mem_map]
      rintro ⟨u, _, e⟩
      split at e <;> omega
    · unfold liftF
      refine List.Pairwise.map _ (fun a b hab e => ?_) hO.nodup
      split at e <;> split at e <;> omega
  have hmem : ∀ v, v ∈ (w :: liftF ord w) ↔ v ∈ upto (ord.length + 1) := fun v => by
    rw [mem_upto, List.mem_cons]
    unfold liftF
    rw [List.mem_map]
    constructor
    · rintro (rfl | ⟨u, hu, rfl⟩)
      · omega
      · have := hO.mem.mp hu
        split <;> omega
    · intro h
      by_cases e : v = w
      · exact .inl e
      · right
        by_cases h2 : v < w
        · exact ⟨v, hO.mem.mpr (by omega), by rw [if_neg (by omega)]; omega⟩
        · exact ⟨v - 1, hO.mem.mpr (by omega), by rw [if_pos (by omega)]; omega⟩
  exact (IsOrd.of_perm (hpm.trans ((List.perm_ext_iff_of_nodup nd (upto_nodup _)).mpr hmem))).1
end Tn
namespace Tn
theorem but_succ (i : Nat) (w : Int) : butF (i + 1) w = butF i w ++ (if (i : Int) = w then [] else [(i : Int)]) := by
  unfold butF upto
  rw [List.range_succ, List.map_append, List.filter_append]
  congr 1
  by_cases h : (i : Int) = w
  · rw [if_pos h]
    simp [h]
  · rw [if_neg h]
    simp [h]
end Tn
namespace L2
open Tn PySem PySem.Spec PyProof.Rows
def rEqN (K : PySem.W.Frag) : R2 := fun x y H Q => ∃ (n : Nest) (o : Option Bool), NestAt K H n x ∧ NestAt K H n y ∧ valid o n = true ∧ depthN n ≤ 60 ∧ Q (.bl true) H
theorem op_eqN {X : Cx} (hu : X.A.units + 180 < cLine) : OpR X (compareOp .Eq) (rEqN X.K) := by
  intro pins s σ H x y v u Q I rx ry h
  obtain ⟨n, o, hx, hy, hv, hd, q⟩ := h
  cases n with
  | bad => simp [valid] at hv
  | word =>
    obtain rfl : x = .non := hx
    obtain rfl : y = .non := hy
    cases rx
    cases ry
    exact SeqAt.RcAt.none_none X.prog X.w X.xe _ ⟨.bl true, H, I, rfl, q⟩
  | knot k ps =>
    obtain ⟨a, b, vs, rfl, ea, eb, _, _, hp⟩ := hx
    obtain ⟨a', b', vs', rfl, ea', eb', _, _, hp'⟩ := hy
    cases rx
    cases ry
    obtain ⟨its, r1, p1, _⟩ := I.tuple (SqT.of ea)
    obtain ⟨its2, r2, p2, _⟩ := I.tuple (SqT.of ea')
    have l1 := r1.length
    have l2 := r2.length
    have hi := in1_units X.A
    have hvp : validL k ps = true := by simp only [valid, Bool.and_eq_true] at hv; exact hv.2
    rw [depthN] at hd
    have lp := hp.len
    have lp' := hp'.len
    have both : ∀ (j : Nat) (x y : V), ([V.str (kS k), V.ref b] : List V)[j]? = some x → ([V.str (kS k), V.ref b'] : List V)[j]? = some y → DEq X.K H 140 x y true
      | 0, x, y, h1, h2 => by
        obtain rfl : V.str (kS k) = x := by simpa using h1
        obtain rfl : V.str (kS k) = y := by simpa using h2
        have z := DEq.flat (K := X.K) (H := H) (d := 140) (x := .str (kS k)) (y := .str (kS k)) rfl rfl
        rwa [show eqV (.str (kS k)) (.str (kS k)) = true by simp [eqV]] at z
      | 1, x, y, h1, h2 => by
        obtain rfl : V.ref b = x := by simpa using h1
        obtain rfl : V.ref b' = y := by simpa using h2
        by_cases hbb : b = b'
        · subst hbb; exact .same
        · exact (deq_all (e := fun _ => true) hbb (SqT.of eb) (SqT.of eb') (by omega) (fun j x y h1 h2 => nests_deq hp hp' hvp h1 h2) (by simp)).mono (by omega)
      | j + 2, x, y, h1, _ => by simp at h1
    refine SeqAt.eq_tupleAt (e := fun _ => true) (show s.heap.IsTuple a its.toArray from p1) (show s.heap.IsTuple a' its2.toArray from p2) (by omega) (fun j h1 h2 => ?_) (fin_bl I q (by rw [List.size_toArray, List.size_toArray, ← l1, ← l2]; rfl))
    obtain ⟨v1, e1, rv1⟩ := r1.get (i := j) (x := ([V.str (kS k), V.ref b] : List V)[j]'(by rw [l1]; simpa using h1)) (by simp)
    obtain ⟨v2, e2, rv2⟩ := r2.get (i := j) (x := ([V.str (kS k), V.ref b'] : List V)[j]'(by rw [l2]; simpa using h2)) (by simp)
    rw [show its.toArray[j] = v1 by simpa using (List.getElem?_eq_some_iff.mp e1).2, show its2.toArray[j] = v2 by simpa using (List.getElem?_eq_some_iff.mp e2).2]
    exact deq_at I (both j _ _ (by simp) (by simp)) rv1 rv2 (by omega)
end L2
namespace Tn
open L2 PySem
theorem NestAt.notStr {K : PySem.W.Frag} {H : Hp} {n : Nest} {o : Option Bool} {v : V} (h : NestAt K H n v) (hv : valid o n = true) : ∃ t, TyOf K H v t ∧ PySem.W.kitOne K t (.type "str") = some false := by
  cases n with
  | word =>
    obtain rfl : v = .non := h
    exact ⟨_, .non, kit_not K rfl rfl (by decide +kernel)⟩
  | bad => exact absurd hv (by simp [valid])
  | knot k ps =>
    obtain ⟨a', b', us, rfl, ea, _⟩ := h
    exact ⟨_, .tup ea, kit_not K rfl rfl (by decide +kernel)⟩
end Tn
namespace K83
open PySem L2 Tn
def top (i : Nat) : Stmt := PySem.Challenge.pw_turnnest_k83_whole_changed_word_by_word.main.body.getD i (.Pass ⟨0, 0, 0, 0⟩)
abbrev s_is_whole : Stmt := top 6
abbrev s_are_different_below : Stmt := top 7
abbrev s_make_order : Stmt := top 10
abbrev s_mirror : Stmt := top 11
abbrev s_left_of : Stmt := top 12
abbrev s_must_be_words : Stmt := top 13
abbrev s_put_together : Stmt := top 14
abbrev s_must_fit : Stmt := top 15
abbrev s_first_numbers : Stmt := top 16
abbrev s_is_nest : Stmt := top 18
abbrev s_is_knot : Stmt := top 19
abbrev s_must_be_nest : Stmt := top 20
abbrev s_is_of_kind : Stmt := top 21
abbrev s_seen : Stmt := top 22
abbrev s_order_of : Stmt := top 23
abbrev s_count_words : Stmt := top 24
abbrev s_shared_out : Stmt := top 25
abbrev s_left_nest : Stmt := top 27
abbrev s_left_parts : Stmt := top 28
abbrev s_knot_of : Stmt := top 29
abbrev s_cuts : Stmt := top 32
abbrev s_nest_of : Stmt := top 33
abbrev s_stretches : Stmt := top 34
abbrev s_bar_of : Stmt := top 36
abbrev s_falling_bar : Stmt := top 37
abbrev s_bar_around : Stmt := top 38
abbrev s_law_mixed : Stmt := top 41
abbrev s_law_put_in : Stmt := top 42
abbrev s_law_without : Stmt := top 43
abbrev s_law_bar_good : Stmt := top 44
abbrev s_law_either : Stmt := top 45
abbrev s_law_gone : Stmt := top 46
abbrev s_law_next : Stmt := top 47
abbrev s_law : Stmt := top 48
structure Txt (mg : Str → Option Value) : Prop where
  b : Blt mg
  str : mg "str" = none
  sum : mg "sum" = none
  max : mg "max" = none
  min : mg "min" = none
  ve : mg "ValueError" = none
  srt : mg "sorted" = none
  enm : mg "enumerate" = none
  rev : mg "reversed" = none
  zip : mg "zip" = none
section
variable {P : Program} {w : World} {K : PySem.W.Frag} {mg : Str → Option Value} {base : Heap}
abbrev sIsNest : Stmt := s_is_nest
abbrev sKnot : Stmt := s_is_knot
abbrev sMust : Stmt := s_must_be_nest
abbrev sWhole : Stmt := s_is_whole
abbrev sDiff : Stmt := s_are_different_below
abbrev sLeft : Stmt := s_left_of
abbrev sMbw : Stmt := s_must_be_words
abbrev sCountW : Stmt := s_count_words
abbrev sMake : Stmt := s_make_order
abbrev sPut : Stmt := s_put_together
abbrev sFit : Stmt := s_must_fit
abbrev sFirsts : Stmt := s_first_numbers
def spMixed : Sp := fun vs H Q _ => ∃ c k : Int, vs = [.int c, .int k] ∧ -1000 ≤ k ∧ k ≤ 1000 ∧ ∀ z : Int, 0 ≤ z → Q (.int z) H
abbrev ns_law_mixed : List Str := ["cell", "k", "number"]
theorem sc_law_mixed : FnScope ns_law_mixed ["cell", "k"] (defScope s_law_mixed) := ⟨rfl, rfl, rfl, by decide +kernel, rfl, by decide +kernel, by decide +kernel⟩
theorem ok_mixed (D : Def K mg "_law_mixed" s_law_mixed ["cell", "k"]) : Has P w K mg base CX0 1 "_law_mixed" ["cell", "k"] spMixed := by
  refine D.ok sc_law_mixed (fun vs H Q E h => ?_) (fun f cdv A outer s H vs Q E hr h => ?_)
  · obtain ⟨c, k, rfl, _⟩ := h; rfl
  · obtain ⟨c, k, rfl, k1, k2, q⟩ := h
    refine go_c (ps_set (i := 2) sc_law_mixed.nd rfl (Or.inl rfl) (pe_op op_mod (pe_op op_add (pe_op op_add (pe_op op_mulW (pe_op op_mod (pv 0) pe_int) (pe_op op_add (pe_op op_mulW pe_int (pv 1)) pe_int)) (pe_op op_mulW pe_int (pv 1))) pe_int) pe_int)) ?_
    intro t0'
    refine go_1 (ps_ret (pe_op op_fdiv (pe_op op_mod (pe_op op_mulW (pv 2) (pv 2)) pe_int) pe_int)) ?_
    intro t1'
    refine ⟨_, rfl, _, _, rfl, rfl, (by show (0 : Int) < 2147483629; decide), _, rfl, _, _, rfl, rfl, mulOk_of (by omega) (by omega), _, _, rfl, rfl, _, _, rfl, rfl, mulOk_of (by omega) (by omega), _, rfl, _, _, rfl, rfl, mulOk_of (by omega) (by omega), _, _, rfl, rfl, _, _, rfl, rfl, _, _, rfl, rfl, (by show (0 : Int) < 2147483587; decide), ?_⟩
    refine ⟨_, rfl, _, rfl, _, _, rfl, rfl, mulOk_of (by omega) (by omega), _, _, rfl, rfl, (by show (0 : Int) < 2147483563; decide), _, _, rfl, rfl, ⟨by decide, by decide⟩, q _ (Int.ediv_nonneg (Int.emod_nonneg _ (by decide)) (by decide))⟩
def spPutIn (K : PySem.W.Frag) : Sp := fun vs H Q _ => ∃ (l : Addr) (ord : List Int) (p : Nat) (w : Int), vs = [.ref l, .int (p : Int), .int w] ∧ SqL K H l (ord.map V.int) ∧ ord.length ≤ 900 ∧ p ≤ ord.length ∧ ∀ (r : Addr) (H' : Hp), H r = none → H' r = some (.lst ((putF ord p w).map V.int)) → Same H H' → Q (.ref r) H'
def spWithout (K : PySem.W.Frag) : Sp := fun vs H Q _ => ∃ (l : Addr) (ord : List Int) (w : Int), vs = [.ref l, .int w] ∧ SqL K H l (ord.map V.int) ∧ ord.length ≤ 900 ∧ ∀ (r : Addr) (H' : Hp), H r = none → H' r = some (.lst ((dropF ord w).map V.int)) → Same H H' → Q (.ref r) H'
abbrev ns_law_put_in : List Str := ["order", "place", "word", "numbers"]
theorem sc_law_put_in : FnScope ns_law_put_in ["order", "place", "word"] (defScope s_law_put_in) := ⟨rfl, rfl, rfl, by decide +kernel, rfl, by decide +kernel, by decide +kernel⟩
def cp_law_put_in_0 (s : Stmt) : Scope := match (defBody s).getD 0 (.Pass ⟨0, 0, 0, 0⟩) with
  | .Assign _ (.ListComp _ _ sc _) _ => sc
  | _ => defScope s
theorem cs_law_put_in_0 : CScope (defScope s_law_put_in) (cp_law_put_in_0 s_law_put_in) "number" ["number", "word"] ns_law_put_in [2] := cs_of (by decide +kernel)
theorem ok_putin (D : Def K mg "_law_put_in" s_law_put_in ["order", "place", "word"]) (T : Txt mg) : Has P w K mg base CX0 1 "_law_put_in" ["order", "place", "word"] (spPutIn K) := by
  refine D.ok sc_law_put_in (fun vs H Q E h => ?_) (fun f cdv A outer s H vs Q E hr h => ?_)
  · obtain ⟨l, ord, p, w, rfl, _⟩ := h; rfl
  · obtain ⟨l, ord, p, w, rfl, hl, hz, hp, q⟩ := h
    refine go_c (ps_setComp (i := 3) sc_law_put_in.nd rfl (Or.inl rfl) rfl cs_law_put_in_0 rfl (pi_list (pv 0)) (fun cl C fp s H => pg_name (i := 0) cs_law_put_in_0.nd rfl (Or.inl rfl)) (fun cl C fp s H => pts_nil) (fun cl C fp s H => (pe_op op_add (pv 0) (pe_callTy call_int1 (by rfl) T.b.int boot_ty_int (pa_cons (pe_cmpR op_ge (pv 0) (pv 1) (nomark _)) pa_nil)))) rfl) ?_
    intro t0'
    refine go_1 (ps_ret (pe_op op_cat (pe_op op_cat (pe_slice sl_list (pv 3) po_none (po_some (pv 1))) (pe_lst (pa_cons (pv 2) pa_nil))) (pe_slice sl_list (pv 3) (po_some (pv 1)) po_none))) ?_
    intro t1'
    have hln : (ord.map V.int).length = ord.length := List.length_map ..
    refine ⟨_, rfl, l, rfl, ⟨_, hl⟩, fun D hD => ?_⟩
    have sD : ∀ acc, Same H (upd H D (.lst acc)) := fun acc => same_upd hD
    refine comp_list (fun t => V.int (ord.getD t 0 + if decide (w ≤ ord.getD t 0) = true then 1 else 0)) (line1000 (by omega)) (fun acc => (sD acc).seq hl) (fun t y acc R hy hR => ?_) ?_
    · obtain ⟨z, hz', rfl⟩ := ints_get hy
      have e : ord.getD t 0 = z := by rw [List.getD_eq_getElem?_getD, hz']; rfl
      rw [e] at hR
      exact ⟨_, rfl, _, rfl, _, rfl, _, _, rfl, rfl, .inr ⟨_, rfl, _, _, rfl, rfl, hR⟩⟩
    · have em : ((List.range (ord.map V.int).length).map fun t => V.int (ord.getD t 0 + if decide (w ≤ ord.getD t 0) = true then 1 else 0)) = (liftF ord w).map V.int := by
        rw [hln]
        unfold liftF
        apply List.ext_getElem?
        intro i
        by_cases h : i < ord.length
        · simp [h]
        · simp [h]
      rw [em]
      have hll : (liftF ord w).length = ord.length := by unfold liftF; simp
      have e1 : (upd H D (.lst ((liftF ord w).map V.int))) D = some (.lst ((liftF ord w).map V.int)) := upd_same
      have s1 := sD ((liftF ord w).map V.int)
      generalize upd H D (.lst ((liftF ord w).map V.int)) = H1 at e1 s1 ⊢
      have hlm : ((liftF ord w).map V.int).length = ord.length := by rw [List.length_map, hll]
      refine gname_go ?_
      dsimp only [List.set]
      refine ⟨_, rfl, _, rfl, _, rfl, D, _, rfl, SqL.of e1, fun x4 hx4 => ⟨_, rfl, (by show 1 ≤ sizeLine; decide), fun x5 hx5 => ?_⟩⟩
      rw [cutN_head _ p (by omega)] at hx5 ⊢
      have e5 := same_upd (o := .lst [V.int w]) hx5 _ _ (upd_same (H := H1) (a := x4) (o := .lst (((liftF ord w).map V.int).take p)))
      refine ⟨x4, x5, _, _, rfl, rfl, e5, upd_same, line1000 (by simp; omega), fun x6 hx6 => ?_⟩
      have s4 := (same_upd (o := .lst (((liftF ord w).map V.int).take p)) hx4).trans ((same_upd (o := .lst [V.int w]) hx5).trans (same_upd (o := .lst (((liftF ord w).map V.int).take p ++ [V.int w])) hx6))
      have e4 : (upd (upd (upd H1 x4 (.lst (((liftF ord w).map V.int).take p))) x5 (.lst [V.int w])) x6 (.lst (((liftF ord w).map V.int).take p ++ [V.int w]))) x6 = _ := upd_same
      generalize upd (upd (upd H1 x4 (.lst (((liftF ord w).map V.int).take p))) x5 (.lst [V.int w])) x6 (.lst (((liftF ord w).map V.int).take p ++ [V.int w])) = H4 at s4 e4 ⊢
      refine ⟨_, rfl, _, rfl, _, rfl, D, _, rfl, SqL.of (s4 _ _ e1), fun x7 hx7 => ?_⟩
      rw [cutN_tail _ p (by omega)]
      refine ⟨x6, x7, _, _, rfl, rfl, same_upd hx7 _ _ e4, upd_same, line1000 (by simp; omega), fun x8 hx8 => ?_⟩
      have S := s1.trans (s4.trans (same_upd (o := .lst (((liftF ord w).map V.int).drop p)) hx7))
      refine q x8 _ (S.free hx8) ?_ (S.trans (same_upd hx8))
      rw [upd_same]
      unfold Tn.putF
      simp
abbrev ns_law_without : List Str := ["order", "word"]
theorem sc_law_without : FnScope ns_law_without ["order", "word"] (defScope s_law_without) := ⟨rfl, rfl, rfl, by decide +kernel, rfl, by decide +kernel, by decide +kernel⟩
def cp_law_without_0 (s : Stmt) : Scope := match (defBody s).getD 0 (.Pass ⟨0, 0, 0, 0⟩) with
  | .Return (some (.ListComp _ _ sc _)) _ => sc
  | _ => defScope s
theorem cs_law_without_0 : CScope (defScope s_law_without) (cp_law_without_0 s_law_without) "number" ["number", "word"] ns_law_without [1] := cs_of (by decide +kernel)
theorem ok_without (D : Def K mg "_law_without" s_law_without ["order", "word"]) (T : Txt mg) : Has P w K mg base CX0 1 "_law_without" ["order", "word"] (spWithout K) := by
  refine D.ok sc_law_without (fun vs H Q E h => ?_) (fun f cdv A outer s H vs Q E hr h => ?_)
  · obtain ⟨l, ord, w, rfl, _⟩ := h; rfl
  · obtain ⟨l, ord, w, rfl, hl, hz, q⟩ := h
    refine ⟨_, (pss_one (ps_ret (pe_comp rfl cs_law_without_0 rfl (pi_list (pv 0)) (fun cl C fp s H => pg_name (i := 0) cs_law_without_0.nd rfl (Or.inl rfl)) (fun cl C fp s H => pts_one (pt_cmpR op_ne (pv 0) (pv 1) (nomark _))) (fun cl C fp s H => (pe_op op_sub (pv 0) (pe_callTy call_int1 (by rfl) T.b.int boot_ty_int (pa_cons (pe_cmpR op_gt (pv 0) (pv 1) (nomark _)) pa_nil))))))), ?_⟩
    refine ⟨_, rfl, l, rfl, ⟨_, hl⟩, fun D hD => ?_⟩
    have sD : ∀ acc, Same H (upd H D (.lst acc)) := fun acc => same_upd hD
    refine comp_invF (n := ord.length) (fun i acc H' => acc = (dropF (ord.take i) w).map V.int ∧ H' = upd H D (.lst acc)) ⟨rfl, rfl⟩ ?_ (line1000 (by omega)) ?_ ?_ ?_
    · rintro i acc H' ⟨rfl, rfl⟩
      refine ⟨upd_same, ?_⟩
      unfold dropF
      rw [List.length_map, List.length_map]
      refine Nat.le_trans (List.length_filter_le _ _) ?_
      rw [List.length_take]
      omega
    · rintro i acc H' hi ⟨rfl, rfl⟩
      exact ⟨ord.map V.int, V.int ord[i], (sD _).seq hl, get_ints (by simp [hi])⟩
    · rintro acc H' ⟨rfl, rfl⟩
      refine ⟨⟨ord.map V.int, (sD _).seq hl, by rw [List.length_map]; exact Nat.le_refl _⟩, ?_⟩
      rw [List.take_length]
      exact q D _ hD upd_same (sD _)
    · rintro i acc H' y H5 R0 R1 hi ⟨rfl, rfl⟩ ⟨rfl, hy⟩ hR0 hR1
      obtain ⟨z, hz', rfl⟩ := ints_get (hy _ ((sD _).seq hl))
      have hcat : ord.take (i + 1) = ord.take i ++ [z] := by rw [List.take_succ, hz']; rfl
      refine ⟨_, rfl, _, rfl, rfl, _, rfl, ?_⟩
      by_cases hw : z = w
      · subst hw
        rw [show (!decide (V.int z = V.int z)) = false by simp]
        refine iteF (hR0 _ ⟨?_, rfl⟩)
        rw [hcat]
        unfold dropF
        rw [List.filter_append, List.map_append, List.map_append, List.filter_cons_of_neg (by simp)]
        simp
      · rw [show (!decide (V.int z = V.int w)) = true by simp [hw]]
        refine iteT ⟨_, rfl, _, rfl, _, rfl, _, _, rfl, rfl, .inr ⟨_, rfl, _, _, rfl, rfl, hR1 _ _ upd_same ⟨?_, upd_upd⟩⟩⟩
        rw [hcat]
        unfold dropF
        rw [List.filter_append, List.map_append, List.map_append, List.filter_cons_of_pos (by simpa using hw)]
        simp
def spNext (K : PySem.W.Frag) : Sp := fun vs H Q _ => ∃ (l : Addr) (ord : List Int) (c : Int), vs = [.ref l, .int c] ∧ SqL K H l (ord.map V.int) ∧ IsOrd ord ∧ 1 ≤ ord.length ∧ ord.length ≤ 60 ∧
  ∀ (r l2 : Addr) (p : Nat) (w : Int) (H' : Hp), H r = none → H l2 = none → H' r = some (.lst [.ref l2, .int w]) → H' l2 = some (.lst ((Tn.putF ord p w).map V.int)) → p ≤ ord.length → 0 ≤ w → w ≤ (ord.length : Int) → Same H H' → Q (.ref r) H'
abbrev ns_law_next : List Str := ["order", "cell", "place", "word"]
theorem sc_law_next : FnScope ns_law_next ["order", "cell"] (defScope s_law_next) := ⟨rfl, rfl, rfl, by decide +kernel, rfl, by decide +kernel, by decide +kernel⟩
theorem ok_next (D : Def K mg "_law_next" s_law_next ["order", "cell"]) (T : Txt mg) (h_law_mixed : Has P w K mg base CX0 1 "_law_mixed" ["cell", "k"] spMixed) (h_law_put_in : Has P w K mg base CX0 1 "_law_put_in" ["order", "place", "word"] (spPutIn K)) : Has P w K mg base CX0 2 "_law_next" ["order", "cell"] (spNext K) := by
  refine D.ok sc_law_next (fun vs H Q E h => ?_) (fun f cdv A outer s H vs Q E hr h => ?_)
  · obtain ⟨l, ord, c, rfl, _⟩ := h; rfl
  · obtain ⟨l, ord, c, rfl, hl, hO, h1, hz, q⟩ := h
    refine go_c (ps_set (i := 2) sc_law_next.nd rfl (Or.inl rfl) (pe_op op_mod (pe_has h_law_mixed hr (by rfl) pass0 (pa_cons (pv 1) (pa_cons pe_int pa_nil))) (pe_op op_add (pe_callB call_len_seq (by rfl) T.b.len PySem.boot_len (pa_cons (pv 0) pa_nil)) pe_int))) ?_
    intro t0'
    refine go_c (ps_set (i := 3) sc_law_next.nd rfl (Or.inl rfl) (pe_op op_mod (pe_has h_law_mixed hr (by rfl) pass0 (pa_cons (pv 1) (pa_cons pe_int pa_nil))) (pe_op op_add (pe_callB call_len_seq (by rfl) T.b.len PySem.boot_len (pa_cons (pv 0) pa_nil)) pe_int))) ?_
    intro t1'
    refine go_c (ps_if (pt_cmpR op_gt (pe_op op_mod (pe_has h_law_mixed hr (by rfl) pass0 (pa_cons (pv 1) (pa_cons pe_int pa_nil))) pe_int) pe_int (nomark _)) (pss_one (ps_set (i := 3) sc_law_next.nd rfl (Or.inl rfl) (pe_op op_add (pe_ix ix_list (pv 0) (pe_op op_mod (pv 2) (pe_callB call_len_seq (by rfl) T.b.len PySem.boot_len (pa_cons (pv 0) pa_nil))) (fun _ _ => rfl)) (pe_op op_mod (pe_has h_law_mixed hr (by rfl) pass0 (pa_cons (pv 1) (pa_cons pe_int pa_nil))) pe_int)))) pss_nil) ?_
    intro t2'
    refine go_1 (ps_ret (pe_lst (pa_cons (pe_has h_law_put_in hr (by rfl) pass0 (pa_cons (pv 0) (pa_cons (pv 2) (pa_cons (pv 3) pa_nil)))) (pa_cons (pv 3) pa_nil)))) ?_
    intro t3'
    have hln : ((ord.map V.int).length : Int) = (ord.length : Int) := by rw [List.length_map]
    have md : ∀ (z m : Int), 0 < m → ∃ a : Nat, z % m = (a : Int) ∧ (a : Int) < m := fun z m hm => ⟨(z % m).toNat, by have := Int.emod_nonneg z (show m ≠ 0 by omega); omega, by
      have := Int.emod_lt_of_pos z hm
      have := Int.emod_nonneg z (show m ≠ 0 by omega)
      omega⟩
    refine ⟨_, rfl, c, 1, rfl, by decide, by decide, fun z1 hz1 => ⟨_, rfl, l, _, rfl, .inl hl, _, _, rfl, rfl, _, _, rfl, rfl, (by omega), ?_⟩⟩
    rw [hln]
    obtain ⟨p, hp, hp2⟩ := md z1 ((ord.length : Int) + 1) (by omega)
    refine gname_go ?_
    dsimp only [List.set]
    rw [hp]
    refine ⟨_, rfl, c, 2, rfl, by decide, by decide, fun z2 hz2 => ⟨_, rfl, l, _, rfl, .inl hl, _, _, rfl, rfl, _, _, rfl, rfl, (by omega), ?_⟩⟩
    rw [hln]
    obtain ⟨w0, hw0, hw1⟩ := md z2 ((ord.length : Int) + 1) (by omega)
    refine gname_go ?_
    dsimp only [List.set]
    rw [hw0]
    refine seq_if (fun σ' Hx => ∃ wd : Int, σ' = [some (.ref l), some (.int c), some (.int (p : Int)), some (.int wd)] ∧ Hx = H ∧ 0 ≤ wd ∧ wd ≤ (ord.length : Int)) ?_ fun hrest => ?_
    · rintro σ' Hx ⟨wd, rfl, rfl, g1, g2⟩
      refine ⟨_, rfl, _, rfl, _, rfl, l, ord, p, wd, rfl, hl, by omega, by omega, fun r1 H1 n1 e1 s1 => ⟨_, rfl, (by show 2 ≤ sizeLine; decide), fun r hr' => ?_⟩⟩
      exact q r r1 p wd _ (s1.free hr') n1 upd_same (same_upd hr' _ _ e1) (by omega) g1 g2 (s1.trans (same_upd hr'))
    · refine ⟨_, rfl, c, 3, rfl, by decide, by decide, fun z3 hz3 => ⟨_, _, rfl, rfl, (by show (0 : Int) < 4; decide), _, _, rfl, rfl, _, rfl, ?_⟩⟩
      by_cases h3 : (0 : Int) < z3 % 4
      · rw [decide_eq_true h3]
        refine iteT ⟨_, rfl, _, rfl, _, rfl, l, _, rfl, .inl hl, _, _, rfl, rfl, (by omega), ?_⟩
        dsimp only
        rw [hln]
        obtain ⟨i, hi, hi2⟩ := md (p : Int) (ord.length : Int) (by omega)
        rw [hi]
        have hg : ord[i]? = some ord[i] := List.getElem?_eq_getElem (by omega)
        have hm := hO.mem.mp (List.mem_of_getElem? hg)
        refine ⟨l, _, _, _, rfl, rfl, hl, at_ints hg, _, rfl, c, 4, rfl, by decide, by decide, fun z4 hz4 => ⟨_, _, rfl, rfl, (by show (0 : Int) < 2; decide), _, _, rfl, rfl, ?_⟩⟩
        refine gname_go ?_
        have := Int.emod_nonneg z4 (show (2 : Int) ≠ 0 by decide)
        have := Int.emod_lt_of_pos z4 (show (0 : Int) < 2 by decide)
        exact hrest _ _ ⟨_, rfl, rfl, by omega, by omega⟩
      · rw [decide_eq_false h3]
        exact iteF (hrest _ _ ⟨_, rfl, rfl, by omega, by omega⟩)
def spBarGood (K : PySem.W.Frag) : Sp := fun vs H Q _ => ∃ (a b : Addr) (ord : List Int) (i j k l : Nat), vs = [.ref a, .ref b] ∧ SqT K H a (ord.map V.int) ∧ ord.length ≤ 60 ∧ H b = some (.tup [.int (i : Int), .int (j : Int), .int (k : Int), .int (l : Int)]) ∧ (BarAt ord i j k l ∨ BarUp ord i j k l) ∧ ∀ H', Same H H' → Q (.bl true) H'
abbrev ns_law_bar_good : List Str := ["order", "bar", "place", "words", "ranks"]
theorem sc_law_bar_good : FnScope ns_law_bar_good ["order", "bar"] (defScope s_law_bar_good) := ⟨rfl, rfl, rfl, by decide +kernel, rfl, by decide +kernel, by decide +kernel⟩
def cp_law_bar_good_0 (s : Stmt) : Scope := match (defBody s).getD 3 (.Pass ⟨0, 0, 0, 0⟩) with
  | .Assign _ (.ListComp _ _ sc _) _ => sc
  | _ => defScope s
theorem cs_law_bar_good_0 : CScope (defScope s_law_bar_good) (cp_law_bar_good_0 s_law_bar_good) "place" ["place", "order"] ns_law_bar_good [0] := cs_of (by decide +kernel)
def cp_law_bar_good_1 (s : Stmt) : Scope := match (defBody s).getD 4 (.Pass ⟨0, 0, 0, 0⟩) with
  | .Assign _ (.ListComp _ _ sc _) _ => sc
  | _ => defScope s
theorem cs_law_bar_good_1 : CScope (defScope s_law_bar_good) (cp_law_bar_good_1 s_law_bar_good) "word" ["word", "words"] ns_law_bar_good [3] := cs_of (by decide +kernel)
theorem ok_bargood (D : Def K mg "_law_bar_good" s_law_bar_good ["order", "bar"]) (T : Txt mg) : Has P w K mg base CX0 1 "_law_bar_good" ["order", "bar"] (spBarGood K) := by
  refine D.ok sc_law_bar_good (fun vs H Q E h => ?_) (fun f cdv A outer s H vs Q E hr h => ?_)
  · obtain ⟨a, b, ord, i, j, k, l, rfl, _⟩ := h; rfl
  · obtain ⟨a, b, ord, i, j, k, l, rfl, hT, hz, hb, hbar, q⟩ := h
    refine go_c (ps_if (PW.pt (pw_or (pt_not (pt_val (pe_callB call_isi (by rfl) T.b.isi boot_isi (pa_cons (pv 1) (pa_cons (pe_bltn (v := .ty "tuple") (by rfl) T.b.tup boot_ty_tuple rfl) pa_nil))))) (pw_or1 (pt_cmpR op_ne (pe_callB call_len_seq (by rfl) T.b.len PySem.boot_len (pa_cons (pv 1) pa_nil)) pe_int (nomark _))))) (pss_one (ps_ret pe_bl)) pss_nil) ?_
    intro t0'
    refine go_c (ps_for PassesOwn.never rfl (pi_tup (pv 1)) (pg_name (i := 2) sc_law_bar_good.nd rfl (Or.inl rfl)) (pss_one (ps_if (PW.pt (pw_or (pt_not (pt_val (pe_callB call_isi (by rfl) T.b.isi boot_isi (pa_cons (pv 2) (pa_cons (pe_bltn (v := .ty "int") (by rfl) T.b.int boot_ty_int rfl) pa_nil))))) (pw_or1 (pt_val (pe_callB call_isi (by rfl) T.b.isi boot_isi (pa_cons (pv 2) (pa_cons (pe_bltn (v := .ty "bool") (by rfl) T.b.bl boot_ty_bool rfl) pa_nil))))))) (pss_one (ps_ret pe_bl)) pss_nil))) ?_
    intro t1'
    refine go_c (ps_if (pt_not (pt_chainN pe_int (Links.cons op_le (pe_ix ix_tup (pv 1) pe_int (fun _ _ => rfl)) (Links.cons op_lt (pe_ix ix_tup (pv 1) pe_int (fun _ _ => rfl)) (Links.cons op_lt (pe_ix ix_tup (pv 1) pe_int (fun _ _ => rfl)) (Links.cons op_lt (pe_ix ix_tup (pv 1) pe_int (fun _ _ => rfl)) (Links.one op_lt (pe_callB call_len_seq (by rfl) T.b.len PySem.boot_len (pa_cons (pv 0) pa_nil))))))))) (pss_one (ps_ret pe_bl)) pss_nil) ?_
    intro t2'
    refine go_c (ps_set (i := 3) sc_law_bar_good.nd rfl (Or.inr rfl) (pe_comp rfl cs_law_bar_good_0 rfl (pi_tup (pv 1)) (fun cl C fp s H => pg_name (i := 0) cs_law_bar_good_0.nd rfl (Or.inl rfl)) (fun cl C fp s H => pts_nil) (fun cl C fp s H => (pe_ix (r := rIxT K) ix_tup (pv 1) (pv 0) (fun _ _ => rfl))))) ?_
    intro t3'
    refine go_c (ps_setComp (i := 4) sc_law_bar_good.nd rfl (Or.inl rfl) rfl cs_law_bar_good_1 rfl (pi_list (pv 3)) (fun cl C fp s H => pg_name (i := 0) cs_law_bar_good_1.nd rfl (Or.inl rfl)) (fun cl C fp s H => pts_nil) (fun cl C fp s H => (show PE _ _ (tBM K "list" rIndex (tCB (rSortL K) (tCons (tVar 1) tNil)) (tCons (tVar 0) tNil)) from pe_bm PySem.F.plainAttrs_list PySem.F.slot_list_index PySem.F.type_list_index mt_index (pe_callB call_sortedLK (by rfl) T.srt boot_sorted (pa_cons (pv 1) pa_nil)) (pa_cons (pv 0) pa_nil))) rfl) ?_
    intro t4'
    refine go_1 (ps_ret (pe_or (pe_cmpR (op_eqL hr.units0) (pv 4) (pe_lst (pa_cons pe_int (pa_cons pe_int (pa_cons pe_int (pa_cons pe_int pa_nil))))) (nomark _)) (pe_one (pe_cmpR (op_eqL hr.units0) (pv 4) (pe_lst (pa_cons pe_int (pa_cons pe_int (pa_cons pe_int (pa_cons pe_int pa_nil))))) (nomark _))))) ?_
    intro t5'
    refine ⟨_, rfl, _, _, _, _, rfl, .tup hb, kit_same _ _, _, rfl, iteF ?_⟩
    have hord : i < j ∧ j < k ∧ k < l ∧ l < ord.length := by
      rcases hbar with ⟨h1, h2, h3, h4, _⟩ | ⟨h1, h2, h3, h4, _⟩
      · exact ⟨h1, h2, h3, h4⟩
      · exact ⟨h1, h2, h3, h4⟩
    obtain ⟨o1, o2, o3, o4⟩ := hord
    have hln : ((ord.map V.int).length : Int) = (ord.length : Int) := by rw [List.length_map]
    refine ⟨_, rfl, b, _, rfl, .inr (SqT.of hb), rfl, _, rfl, iteF ?_⟩
    refine ⟨_, rfl, b, rfl, ⟨_, SqT.of hb⟩, for_tup (K := K) (a := b) (xs := [(i : Int), j, k, l].map V.int) (fun _ σ Hx => ∃ v2 : Option V, σ = [some (.ref a), some (.ref b), v2, none, none] ∧ Hx = H) ⟨none, rfl, rfl⟩ (fun t σ Hx _ ⟨_, _, e⟩ => by rw [e]; exact SqT.of hb) ?_ ?_⟩
    · rintro t y σ Hx hy ⟨v2, rfl, rfl⟩
      obtain ⟨z, _, rfl⟩ := ints_get hy
      exact ⟨_, rfl, _, _, _, _, rfl, .int z, kit_same _ _, _, rfl, iteF ⟨_, rfl, _, _, _, _, rfl, .int z, kit_int_bool _, _, rfl, iteF ⟨_, rfl, rfl⟩⟩⟩
    rintro σ Hx ⟨v2, rfl, rfl⟩
    refine ⟨_, rfl, b, _, 0, _, rfl, rfl, SqT.of hb, rfl, _, _, rfl, rfl, _, rfl, ?_⟩
    rw [decide_eq_true (by omega)]
    refine iteT ⟨_, rfl, b, _, 1, _, rfl, rfl, SqT.of hb, rfl, _, _, rfl, rfl, _, rfl, ?_⟩
    rw [decide_eq_true (by omega)]
    refine iteT ⟨_, rfl, b, _, 2, _, rfl, rfl, SqT.of hb, rfl, _, _, rfl, rfl, _, rfl, ?_⟩
    rw [decide_eq_true (by omega)]
    refine iteT ⟨_, rfl, b, _, 3, _, rfl, rfl, SqT.of hb, rfl, _, _, rfl, rfl, _, rfl, ?_⟩
    rw [decide_eq_true (by omega)]
    refine iteT ⟨_, rfl, a, _, rfl, .inr hT, _, _, rfl, rfl, _, rfl, ?_⟩
    rw [hln, decide_eq_true (by omega)]
    refine iteF ?_
    refine ⟨_, rfl, b, rfl, ⟨_, SqT.of hb⟩, fun D hD => ?_⟩
    have sD : ∀ acc, Same Hx (upd Hx D (.lst acc)) := fun acc => same_upd hD
    refine comp_tup (xs := [(i : Int), j, k, l].map V.int) (fun t => V.int (ord.getD ([i, j, k, l].getD t 0) 0)) (by show 4 ≤ sizeLine; decide) (fun acc => (sD acc).sqt (SqT.of hb)) (fun t y acc R hy hR => ?_) ?_
    · have one : ∃ p : Nat, y = V.int (p : Int) ∧ [i, j, k, l].getD t 0 = p ∧ p < ord.length := by
        match t, hy with
        | 0, hy => exact ⟨i, (Option.some.inj hy).symm, rfl, by omega⟩
        | 1, hy => exact ⟨j, (Option.some.inj hy).symm, rfl, by omega⟩
        | 2, hy => exact ⟨k, (Option.some.inj hy).symm, rfl, by omega⟩
        | 3, hy => exact ⟨l, (Option.some.inj hy).symm, rfl, by omega⟩
      obtain ⟨p, rfl, hp, hp2⟩ := one
      rw [hp] at hR
      exact ⟨_, rfl, _, rfl, a, _, _, _, rfl, rfl, (sD _).sqt hT, at_getD hp2, hR⟩
    have em : ((List.range ([(i : Int), j, k, l].map V.int).length).map fun t => V.int (ord.getD ([i, j, k, l].getD t 0) 0)) = [ord.getD i 0, ord.getD j 0, ord.getD k 0, ord.getD l 0].map V.int := rfl
    rw [em]
    generalize hws : [ord.getD i 0, ord.getD j 0, ord.getD k 0, ord.getD l 0] = ws
    have e1 : (upd Hx D (.lst (ws.map V.int))) D = some (.lst (ws.map V.int)) := upd_same
    have s1 := sD (ws.map V.int)
    generalize upd Hx D (.lst (ws.map V.int)) = H1 at e1 s1 ⊢
    refine gname_go ?_
    dsimp only [List.set]
    refine ⟨_, rfl, D, rfl, ⟨_, SqL.of e1⟩, fun D2 hD2 => ?_⟩
    have hwl : ws.length = 4 := by rw [← hws]; rfl
    have hrk : ws.Nodup ∧ (ws.map (rank ws) = [1, 3, 0, 2] ∨ ws.map (rank ws) = [2, 0, 3, 1]) := by
      rw [← hws]
      rcases hbar with ⟨_, _, _, _, h5, h6, h7⟩ | ⟨_, _, _, _, h5, h6, h7⟩
      · exact ⟨(ranks_down h5 h6 h7).1, .inl (ranks_down h5 h6 h7).2⟩
      · exact ⟨(ranks_up h5 h6 h7).1, .inr (ranks_up h5 h6 h7).2⟩
    obtain ⟨nd, hrk⟩ := hrk
    refine comp_inv (n := ws.length) (fun t acc Hc => acc = ((ws.take t).map fun z => V.int ((rank ws z : Nat) : Int)) ∧ Hc D2 = some (.lst acc) ∧ Same H1 Hc ∧ t ≤ ws.length) ⟨rfl, upd_same, same_upd hD2, Nat.zero_le _⟩ ?_ (line1000 (by omega)) ?_ ?_ ?_
    · rintro t acc Hc ⟨rfl, e, _, ht⟩
      exact ⟨e, by rw [List.length_map, List.length_take]; omega⟩
    · rintro t acc Hc ht ⟨rfl, e, sc, _⟩
      exact ⟨ws.map V.int, V.int ws[t], SqL.of (sc _ _ e1), get_ints (List.getElem?_eq_getElem ht)⟩
    · rintro acc Hc ⟨rfl, e, sc, _⟩
      refine ⟨⟨ws.map V.int, SqL.of (sc _ _ e1), by rw [List.length_map]; exact Nat.le_refl _⟩, ?_⟩
      rw [List.take_length, show (ws.map fun z => V.int ((rank ws z : Nat) : Int)) = (ws.map (rank ws)).map fun (n : Nat) => V.int (n : Int) by rw [List.map_map]; rfl] at e
      refine gname_go ?_
      dsimp only [List.set]
      refine ⟨_, rfl, (by show 4 ≤ sizeLine; decide), fun d1 hd1 => ?_⟩
      have s2 := same_upd (o := .lst [V.int 1, V.int 3, V.int 0, V.int 2]) hd1
      rcases hrk with h | h
      · rw [h] at e
        exact ⟨D2, d1, _, _, rfl, rfl, SqL.of (s2 _ _ e), SqL.of upd_same, .inr ⟨true, rfl, _, rfl, iteT (q _ (s1.trans (sc.trans s2)))⟩⟩
      · rw [h] at e
        refine ⟨D2, d1, _, _, rfl, rfl, SqL.of (s2 _ _ e), SqL.of upd_same, .inr ⟨false, rfl, _, rfl, iteF ?_⟩⟩
        refine ⟨_, rfl, (by show 4 ≤ sizeLine; decide), fun d2 hd2 => ?_⟩
        have s3 := same_upd (o := .lst [V.int 2, V.int 0, V.int 3, V.int 1]) hd2
        exact ⟨D2, d2, _, _, rfl, rfl, SqL.of (s3 _ _ (s2 _ _ e)), SqL.of upd_same, .inr ⟨true, rfl, q _ (s1.trans (sc.trans (s2.trans s3)))⟩⟩
    · rintro t acc Hc y H5 R ht ⟨rfl, e, sc, _⟩ ⟨rfl, hy⟩ hR
      obtain ⟨z, hz', rfl⟩ := ints_get (hy _ (SqL.of (sc _ _ e1)))
      refine ⟨_, rfl, D, ws, rfl, SqL.of (sc _ _ e1), by omega, fun ws' sl hpm hsr hsl => ?_⟩
      have s4 := same_upd (o := .lst (ws'.map V.int)) hsl
      have hzm : z ∈ ws' := hpm.mem_iff.mpr (List.mem_of_getElem? hz')
      obtain ⟨m, hm, em'⟩ := List.getElem_of_mem hzm
      have em2 : ws'[m]? = some z := by rw [List.getElem?_eq_getElem hm, em']
      have hrm := sorted_rank hpm hsr nd em2
      have hwl' : ws'.length = ws.length := hpm.length_eq
      refine ⟨.inl ⟨rfl, _, SqL.of upd_same⟩, _, rfl, sl, ws', z, m, rfl, rfl, upd_same, em2, fun m2 hm2 z2 => ?_, by omega, ?_⟩
      · have := sorted_rank hpm hsr nd z2
        omega
      · refine hR _ _ (s4 _ _ e) ⟨?_, upd_same, fun b' o' e' => ?_, ht⟩
        · rw [List.take_succ, hz', List.map_append, ← hrm]
          rfl
        · rw [upd_ne (ne_of_none e' hD2)]
          exact s4 _ _ (sc _ _ e')
theorem scWhole : FnScope ["thing"] ["thing"] (defScope sWhole) := ⟨rfl, rfl, rfl, by decide +kernel, rfl, by decide +kernel, by decide +kernel⟩
theorem ok_whole {f : Addr} {fd : FuncData} (F : Fun K "is_whole" "is_whole" sWhole f fd) (T : Txt mg) : FnOk P w K mg base CX0 1 f fd ["thing"] (spWhole K) := by
  refine F.ok scWhole (fun vs H Q E h => ?_) (fun cdv A outer s H vs Q E hr h => ?_)
  · obtain ⟨x, rfl, _⟩ := h; rfl
  · obtain ⟨x, rfl, h⟩ := h
    refine ⟨_, (pss_one (ps_ret (pe_and (pe_callB call_isi (by rfl) T.b.isi boot_isi (pa_cons (pv 0) (pa_cons (pe_bltn (v := .ty "int") (by rfl) T.b.int boot_ty_int rfl) pa_nil))) (pe_one (pe_not (pe_callB call_isi (by rfl) T.b.isi boot_isi (pa_cons (pv 0) (pa_cons (pe_bltn (v := .ty "bool") (by rfl) T.b.bl boot_ty_bool rfl) pa_nil)))))))), ?_⟩
    rcases h with ⟨⟨i, rfl⟩, q⟩ | ⟨⟨t, ty, k | ⟨k1, k2⟩⟩, q⟩
    · exact ⟨_, rfl, _, _, _, _, rfl, .int i, kit_same _ _, _, rfl, iteT ⟨_, rfl, _, _, _, _, rfl, .int i, kit_int_bool _, _, rfl, q⟩⟩
    · exact ⟨_, rfl, _, _, _, _, rfl, ty, k, _, rfl, iteF q⟩
    · exact ⟨_, rfl, _, _, _, _, rfl, ty, k1, _, rfl, iteT ⟨_, rfl, _, _, _, _, rfl, ty, k2, _, rfl, q⟩⟩
theorem scDiff : FnScope ["things", "bound", "met", "thing"] ["things", "bound"] (defScope sDiff) := ⟨rfl, rfl, rfl, by decide +kernel, rfl, by decide +kernel, by decide +kernel⟩
theorem ok_diff {f fW : Addr} {fd fdW : FuncData} (F : Fun K "are_different_below" "are_different_below" sDiff f fd) (GW : FnOk P w K mg base CX0 1 fW fdW ["thing"] (spWhole K)) (kW : PySem.W.keepIn K (.ref fW) = true) (mW : mg "is_whole" = some (.ref fW)) (bW : Binds K fdW ["thing"] []) :
    FnOk P w K mg base CX0 2 f fd ["things", "bound"] (spDiff K) := by
  refine F.ok scDiff (fun vs H Q E h => ?_) (fun cdv A outer s H vs Q E hr h => ?_)
  · obtain ⟨l, xs, b, rfl, _⟩ := h; rfl
  · obtain ⟨l, xs, b, rfl, hl, hz, hp, q⟩ := h
    refine ⟨_, (pss_cons (ps_set (i := 2) scDiff.nd rfl (Or.inl rfl) pe_dnewK)
      (pss_cons (ps_for PassesOwn.never rfl (pi_list (pv 0)) (pg_name (i := 3) scDiff.nd rfl (Or.inl rfl))
          (pss_cons (ps_if (pw_or (pt_not (pt_val (pe_call GW hr (by rfl) mW kW bW .nil pass0 (pa_cons (pv 3) pa_nil)))) (pw_or (pt_not (pt_chain op_le op_lt pe_int (pv 3) (pv 1))) (pw_or1 (pt_cmp (pc_din (hu_of hr) (pv 3) (pv 2)))))).pt (pss_one (ps_ret pe_bl)) pss_nil)
      (pss_one (ps_dput (hu_of hr) (pv 2) (pv 3) pe_bl rfl))))
      (pss_one (ps_ret pe_bl)))), ?_⟩
    refine fun d hd => ?_
    have s1 : Same H (upd H d (.dK [])) := same_upd hd
    refine ⟨_, rfl, l, rfl, ⟨_, s1.seq hl⟩, for_list (K := K) (a := l) (xs := xs) (fun i σ H3 => ∃ (ms : List Int) (v : Option V), σ = [some (.ref l), some (.int b), some (.ref d), v] ∧ Same H H3 ∧ H3 d = some (.dK (ms.map fun n => ((Sum.inl n : Key), V.bl true))) ∧ ms.length ≤ i ∧ diffG b [] xs = diffG b ms (xs.drop i))
      ⟨[], none, rfl, s1, upd_same, Nat.le_refl _, rfl⟩ (fun i σ H3 _ ⟨_, _, _, s3, _⟩ => s3.seq hl) ?_ ?_⟩
    · rintro i x σ H3 hi ⟨ms, v, rfl, s3, eD, hml, hg⟩
      have hil : i < xs.length := (List.getElem?_eq_some_iff.mp hi).1
      have hdr : xs.drop i = x :: xs.drop (i + 1) := by
        rw [List.drop_eq_getElem_cons hil]
        congr 1
        exact (List.getElem?_eq_some_iff.mp hi).2
      rw [hdr] at hg
      rcases (hp x (List.mem_of_getElem? hi)) with ⟨z, rfl⟩ | ⟨nw, nz⟩
      · refine ⟨_, rfl, _, rfl, .inl ⟨⟨z, rfl⟩, _, rfl, iteF ?_⟩⟩
        have gz : diffG b ms (.int z :: xs.drop (i + 1)) = if 0 ≤ z ∧ z < b ∧ z ∉ ms then diffG b (ms ++ [z]) (xs.drop (i + 1)) else false := rfl
        rw [gz] at hg
        refine ⟨_, rfl, _, _, rfl, rfl, _, rfl, ?_⟩
        by_cases h0 : (0 : Int) ≤ z
        · rw [if_pos (by simpa using h0)]
          refine ⟨_, rfl, _, _, rfl, rfl, _, rfl, ?_⟩
          by_cases h1 : z < b
          · rw [decide_eq_true h1]
            refine iteF ⟨_, rfl, _, rfl, d, _, rfl, DGet.k (k := Sum.inl z) eD, _, rfl, ?_⟩
            rw [met_val]
            by_cases h2 : z ∈ ms
            · rw [decide_eq_true h2]
              refine iteT ?_
              rw [if_neg (by rintro ⟨_, _, h⟩; exact h h2)] at hg
              have := q H3 s3
              rw [hg] at this
              exact this
            · rw [decide_eq_false h2]
              refine iteF ?_
              rw [if_pos ⟨h0, h1, h2⟩] at hg
              have hnew : valV (ms.map fun n => ((Sum.inl n : Key), V.bl true)) (Sum.inl z) = none := by
                have := met_val ms z
                rw [decide_eq_false h2] at this
                cases e : valV (ms.map fun n => ((Sum.inl n : Key), V.bl true)) (Sum.inl z) with
                | none => rfl
                | some y => rw [e] at this; cases this
              refine ⟨_, rfl, _, rfl, d, _, rfl, DPut.k (k := Sum.inl z) eD (small1000 (by rw [List.length_map]; omega)), ?_⟩
              refine ⟨ms ++ [z], _, rfl, fun c o e => ?_, ?_, by simp; omega, hg⟩
              · rw [upd_ne (ne_of_none e hd)]; exact s3 c o e
              · rw [upd_same, putK_new _ hnew, List.map_append]; rfl
          · rw [decide_eq_false h1]
            refine iteT (iteT ?_)
            rw [if_neg (by rintro ⟨_, h, _⟩; exact h1 h)] at hg
            have := q H3 s3
            rw [hg] at this
            exact this
        · rw [if_neg (by simpa using h0)]
          refine ⟨_, rfl, iteT (iteT ?_)⟩
          rw [if_neg (by rintro ⟨h, _⟩; exact h0 h)] at hg
          have := q H3 s3
          rw [hg] at this
          exact this
      · refine ⟨_, rfl, _, rfl, .inr ⟨nw.mono s3, _, rfl, iteT (iteT ?_)⟩⟩
        rw [diffG_not nz] at hg
        have := q H3 s3
        rw [hg] at this
        exact this
    · rintro σ H3 ⟨ms, v, rfl, s3, eD, _, hg⟩
      rw [List.drop_length] at hg
      have := q H3 s3
      rw [hg] at this
      exact this
def leftComp (s : Stmt) : Scope := match (defBody s).getD 3 (.Pass ⟨0, 0, 0, 0⟩) with
  | .Return (some (.Call _ [.ListComp _ _ sc _] _ _)) _ => sc
  | _ => defScope s
abbrev nsLeft : List Str := ["order", "words", "new_numbers", "number", "word"]
theorem scLeft : FnScope nsLeft ["order", "words"] (defScope sLeft) := ⟨rfl, rfl, rfl, by decide +kernel, rfl, by decide +kernel, by decide +kernel⟩
theorem csLeft : CScope (defScope sLeft) (leftComp sLeft) "word" ["word", "new_numbers"] nsLeft [2] := cs_of (by decide +kernel)
def spMbw (K : PySem.W.Frag) (C : Addr) : Sp := fun vs H Q E => ∃ (l : Addr) (xs : List V) (b : Int), vs = [.ref l, .int b] ∧ SqL K H l xs ∧ xs.length ≤ 1000 ∧ (∀ x ∈ xs, Plain K H x) ∧
  (xs ≠ [] → diffG b [] xs = true → ∀ H', Same H H' → Q .non H') ∧ (xs = [] ∨ diffG b [] xs = false → ∀ H', Same H H' → E (.ref C) none H')
theorem scMbw : FnScope ["words", "many"] ["words", "many"] (defScope sMbw) := ⟨rfl, rfl, rfl, by decide +kernel, rfl, by decide +kernel, by decide +kernel⟩
theorem ok_mbw {f fD C : Addr} {fd fdD : FuncData} (F : Fun K "must_be_words" "must_be_words" sMbw f fd) (T : Txt mg) (GD : FnOk P w K mg base CX0 2 fD fdD ["things", "bound"] (spDiff K)) (kD : PySem.W.keepIn K (.ref fD) = true) (mD : mg "are_different_below" = some (.ref fD)) (bD : Binds K fdD ["things", "bound"] [])
    (mC : mg "NoWords" = some (.ref C)) (xC : PySem.W.excIn K C bmVE "ValueError.__new__" = true) : FnOk P w K mg base (CXV P w) 3 f fd ["words", "many"] (spMbw K C) := by
  refine funV F scMbw (fun vs H Q E h => ?_) (fun cdv A outer s H vs Q E hr h => ?_)
  · obtain ⟨l, xs, b, rfl, _⟩ := h; rfl
  · obtain ⟨l, xs, b, rfl, hl, hz, hp, q, qE⟩ := h
    refine ⟨_, pss_cons (ps_if (pt_cmpR op_eq (pe_callB call_len_seq (by rfl) T.b.len PySem.boot_len (pa_cons (pv 0) pa_nil)) pe_int (nomark _)) (pss_one (ps_raise throwV rfl (by rfl) mC xC (pa_cons pe_str pa_nil))) pss_nil)
      (pss_one (ps_if (pt_not (pt_val (pe_call GD hr (by rfl) mD kD bD .nil pass0 (pa_cons (pv 0) (pa_cons (pv 1) pa_nil))))) (pss_one (ps_raise throwV rfl (by rfl) mC xC (pa_cons pe_str pa_nil))) pss_nil)), ?_⟩
    refine ⟨_, rfl, l, _, rfl, .inl hl, rfl, _, rfl, ?_⟩
    by_cases hne : xs = []
    · subst hne
      exact iteT ⟨(by show 1 ≤ sizeLine; decide), qE (.inl rfl) _ (Same.refl _)⟩
    · rw [decide_eq_false (by intro z; have z : ((xs.length : Nat) : Int) = 0 := V.int.inj z; exact hne (List.length_eq_zero_iff.mp (by omega)))]
      refine iteF ?_
      refine ⟨_, rfl, _, rfl, l, xs, b, rfl, hl, hz, hp, fun H1 s1 => ⟨_, rfl, ?_⟩⟩
      cases hdv : diffG b [] xs with
      | false => exact iteT ⟨(by show 1 ≤ sizeLine; decide), qE (.inr hdv) _ s1⟩
      | true => exact iteF (q hne hdv _ s1)
theorem ok_left {f fM C : Addr} {fd fdM : FuncData} (F : Fun K "left_of" "left_of" sLeft f fd) (T : Txt mg) (GM : FnOk P w K mg base (CXV P w) 3 fM fdM ["words", "many"] (spMbw K C)) (kM : PySem.W.keepIn K (.ref fM) = true) (mM : mg "must_be_words" = some (.ref fM)) (bM : Binds K fdM ["words", "many"] []) : FnOk P w K mg base (CXV P w) 4 f fd ["order", "words"] (spLeft K C) := by
  refine funV F scLeft (fun vs H Q E h => ?_) (fun cdv A outer s H vs Q E hr h => ?_)
  · obtain ⟨o, l, ord, xs, rfl, _⟩ := h; rfl
  · obtain ⟨o, l, ord, xs, rfl, hT, hol, hl, hz, hp, q, h64, qE⟩ := h
    have hlo : (ord.map V.int).length = ord.length := List.length_map ..
    refine ⟨_, pss_cons (ps_expr (pe_call GM hr (by rfl) mM kM bM .nil passV (pa_cons (pv 1) (pa_cons (pe_callB call_len_seq (by rfl) T.b.len PySem.boot_len (pa_cons (pv 0) pa_nil)) pa_nil))))
      (pss_cons (ps_set (i := 2) scLeft.nd rfl (Or.inr rfl) pe_dnewK)
      (PSs.nox (pss_cons (ps_for PassesOwn.never rfl (pi_enumTL rfl T.enm (pa_cons (pe_callB call_sortedL (by rfl) T.srt boot_sorted (pa_cons (pv 1) pa_nil)) pa_nil)) (pg_tup rfl (pgs_cons (pg_name (i := 3) scLeft.nd rfl (Or.inl rfl)) (pgs_cons (pg_name (i := 4) scLeft.nd rfl (Or.inl rfl)) pgs_nil)))
          (pss_one (ps_dput (hu_of hr) (pv 2) (pv 4) (pv 3) rfl)))
        (pss_one (ps_ret (pe_callTy call_tuple_of (by rfl) T.b.tup boot_ty_tuple (pa_cons (pe_comp rfl csLeft rfl (pi_tup (pv 0)) (fun cl C fp s H => pg_name (i := 0) csLeft.nd rfl (Or.inl rfl)) (fun cl C fp s H => pts_one (pt_cmp (pc_din (hu_of hr) (pv 0) (pv 1)))) (fun cl C fp s H => pe_dget (hu_of hr) (pv 1) (pv 0) (fun _ _ => rfl))) pa_nil))))))), ?_⟩
    refine ⟨_, rfl, _, rfl, o, _, rfl, .inr hT, l, xs, (ord.length : Int), (by rw [List.length_map]; rfl), hl, hz, hp, fun hne hdv H1 s1 => ?_, qE⟩
    obtain ⟨ws, rfl, nd, rg, _⟩ := diffG_iff.mp hdv
    have hws : ws ≠ [] := fun z => hne (by rw [z]; rfl)
    have hw64 : ws.length < 64 := by
      rcases h64 with z | z
      · exact absurd z hne
      · have := z hdv
        rwa [List.length_map] at this
    refine fun d hd => ?_
    have s2 : Same H (upd H1 d (.dK [])) := s1.trans (same_upd hd)
    have eD2 : (upd H1 d (.dK [])) d = some (.dK []) := upd_same
    have hd0 : H d = none := s1.free hd
    generalize upd H1 d (.dK []) = H2 at s2 eD2 ⊢
    refine ⟨_, rfl, l, ws, rfl, s2.seq hl, hw64, fun ws' sl hpm hsr hsl => ⟨sl, rfl, ⟨_, SqL.of upd_same⟩, ?_⟩⟩
    have hwl : ws'.length = ws.length := hpm.length_eq
    have nd' : ws'.Nodup := hpm.nodup_iff.mpr nd
    have nds : d ≠ sl := ne_of_none eD2 hsl
    have s3 : Same H (upd H2 sl (.lst (ws'.map V.int))) := s2.trans (same_upd hsl)
    refine for_enumL (K := K) (a := sl) (xs := ws'.map V.int) (fun i σ H3 => ∃ (kvs : List (Key × V)) (v v' : Option V), σ = [some (.ref o), some (.ref l), some (.ref d), v, v'] ∧ Same H H3 ∧ H3 sl = some (.lst (ws'.map V.int)) ∧ H3 d = some (.dK kvs) ∧ kvs.length ≤ i ∧
        ∀ w : Int, valV kvs (Sum.inl w) = if w ∈ ws'.take i then some (V.int (rank ws w : Nat)) else none)
      ⟨[], none, none, rfl, s3, upd_same, by rw [upd_ne nds]; exact eD2, Nat.le_refl _, fun w => by rw [List.take_zero]; rfl⟩ (fun i σ H3 _ ⟨_, _, _, _, _, e, _⟩ => SqL.of e) ?_ ?_
    · rintro i y σ H3 tp hi ⟨kvs, v, v', rfl, s4, eS, eD, hkl, hval⟩ htp
      obtain ⟨z, hz', rfl⟩ := ints_get hi
      have hil : i < ws'.length := (List.getElem?_eq_some_iff.mp hz').1
      have ndt : d ≠ tp := ne_of_none eD htp
      have nst : sl ≠ tp := ne_of_none eS htp
      have hrk : rank ws z = i := sorted_rank hpm hsr nd hz'
      have hnot : z ∉ ws'.take i := fun hm => by
        obtain ⟨j, hj, e⟩ := List.getElem_of_mem hm
        rw [List.length_take] at hj
        have e2 : ws'[j]? = some z := by
          rw [← e, List.getElem_take]
          exact List.getElem?_eq_getElem _
        have := sorted_rank hpm hsr nd e2
        omega
      have hnew : valV kvs (Sum.inl z) = none := by rw [hval, if_neg hnot]
      refine ⟨tp, _, rfl, SqT.of upd_same, rfl, _, _, rfl, _, _, rfl, rfl, ?_⟩
      refine ⟨_, rfl, _, rfl, _, rfl, d, _, rfl, DPut.k (k := Sum.inl z) (by rw [upd_ne ndt]; exact eD) (small1000 (by omega)), ?_⟩
      refine ⟨_, _, _, rfl, fun b ob e => ?_, ?_, upd_same, ?_, fun u => ?_⟩
      · rw [upd_ne (ne_of_none e hd0), upd_ne (ne_of_none (s4 b ob e) htp)]
        exact s4 b ob e
      · rw [upd_ne nds.symm, upd_ne nst]
        exact eS
      · rw [putK_new _ hnew, List.length_append, List.length_singleton]
        omega
      · rw [valV_put, hval, List.take_succ, hz']
        by_cases hu : u = z
        · subst hu
          rw [if_pos rfl, if_pos (by simp), hrk]
        · rw [if_neg (by intro e; injection e with e; exact hu e)]
          have : (u ∈ ws'.take i ++ (some z).toList) ↔ u ∈ ws'.take i := by simp [hu]
          by_cases hm : u ∈ ws'.take i
          · rw [if_pos hm, if_pos (this.mpr hm)]
          · rw [if_neg hm, if_neg (fun h => hm (this.mp h))]
    · rintro σ H3 ⟨kvs, v, v', rfl, s4, eS, eD, hkl, hval⟩
      rw [List.length_map, List.take_length] at hval
      have hval' : ∀ w : Int, valV kvs (Sum.inl w) = if w ∈ ws then some (V.int (rank ws w : Nat)) else none := fun w => by
        rw [hval]
        by_cases hm : w ∈ ws
        · rw [if_pos hm, if_pos (hpm.mem_iff.mpr hm)]
        · rw [if_neg hm, if_neg (fun h => hm (hpm.mem_iff.mp h))]
      refine ⟨_, rfl, o, rfl, ⟨_, s4.sqt hT⟩, fun D hD => ?_⟩
      have ndD : d ≠ D := ne_of_none eD hD
      have sD : ∀ acc, Same H (upd H3 D (.lst acc)) := fun acc => s4.trans (same_upd hD)
      refine comp_invF (n := ord.length) (fun i acc H' => acc = (leftF (ord.take i) ws).map V.int ∧ H' = upd H3 D (.lst acc)) ⟨rfl, rfl⟩ ?_ (line1000 hol) ?_ ?_ ?_
      · rintro i acc H' ⟨rfl, rfl⟩
        refine ⟨upd_same, ?_⟩
        have := leftF_len (ord.take i) ws
        rw [List.length_take] at this
        rw [List.length_map]
        omega
      · rintro i acc H' hi ⟨rfl, rfl⟩
        exact ⟨ord.map V.int, V.int ord[i], (sD _).sqt hT, get_ints (by simp [hi])⟩
      · rintro acc H' ⟨rfl, rfl⟩
        refine ⟨⟨ord.map V.int, (sD _).sqt hT, by rw [hlo]; exact Nat.le_refl _⟩, ?_⟩
        rw [List.take_length]
        exact ⟨D, _, rfl, .inl ⟨SqL.of upd_same, fun t htt => q ws rfl hws hw64 nd rg t _ ((sD _).free htt) upd_same ((sD _).trans (same_upd htt))⟩⟩
      · rintro i acc H' y H5 R0 R1 hi ⟨rfl, rfl⟩ ⟨rfl, hy⟩ hR0 hR1
        obtain ⟨z, hz', rfl⟩ := ints_get (hy _ ((sD _).sqt hT))
        have eDD : ∀ acc, (upd H3 D (.lst acc)) d = some (.dK kvs) := fun acc => by rw [upd_ne ndD]; exact eD
        have hcat : ord.take (i + 1) = ord.take i ++ [z] := by rw [List.take_succ, hz']; rfl
        refine ⟨_, rfl, _, rfl, d, _, rfl, DGet.k (k := Sum.inl z) (eDD _), _, rfl, ?_⟩
        rw [hval']
        by_cases hm : z ∈ ws
        · rw [if_pos hm]
          refine iteT ⟨_, rfl, _, rfl, d, V.int (rank ws z : Nat), rfl, ?_, hR1 _ _ upd_same ⟨?_, upd_upd⟩⟩
          · have := DGet.k (k := Sum.inl z) (eDD ((leftF (ord.take i) ws).map V.int))
            rw [hval', if_pos hm] at this
            exact this
          · rw [hcat]
            unfold leftF
            rw [List.filter_append, List.map_append, List.map_append]
            congr 1
            rw [List.filter_cons_of_pos (by simpa using hm)]
            rfl
        · rw [if_neg hm]
          refine iteF (hR0 _ ⟨?_, rfl⟩)
          rw [hcat]
          unfold leftF
          rw [List.filter_append, List.map_append, List.map_append]
          rw [List.filter_cons_of_neg (by simpa using hm)]
          simp
theorem scMake : FnScope ["numbers"] ["numbers"] (defScope sMake) := ⟨rfl, rfl, rfl, by decide +kernel, rfl, by decide +kernel, by decide +kernel⟩
theorem ok_make {f fD C : Addr} {fd fdD : FuncData} {mw : Tok} (F : Fun K "make_order" "make_order" sMake f fd) (T : Txt mg) (GD : FnOk P w K mg base CX0 2 fD fdD ["things", "bound"] (spDiff K)) (kD : PySem.W.keepIn K (.ref fD) = true) (mD : mg "are_different_below" = some (.ref fD)) (bD : Binds K fdD ["things", "bound"] [])
    (mC : mg "NoOrder" = some (.ref C)) (xC : PySem.W.excIn K C bmVE "ValueError.__new__" = true) (mM : mg "MOST_WORDS" = some (.int 60 mw)) : FnOk P w K mg base (CXV P w) 3 f fd ["numbers"] (spMake K C) := by
  refine funV F scMake (fun vs H Q E h => ?_) (fun cdv A outer s H vs Q E hr h => ?_)
  · obtain ⟨l, xs, rfl, _⟩ := h; rfl
  · obtain ⟨l, xs, rfl, hl, hz, hp, q, qE⟩ := h
    refine ⟨_, (pss_cons (ps_if (pt_not (pt_chain op_le op_le pe_int (pe_callB call_len_seq (by rfl) T.b.len PySem.boot_len (pa_cons (pv 0) pa_nil)) (pe_glob (v := .int 60) (by rfl) mM ⟨mw, rfl⟩))) (pss_one (ps_raise throwV rfl (by rfl) mC xC (pa_cons pe_str pa_nil))) pss_nil)
      (pss_cons (ps_if (pt_not (pt_val (pe_call GD hr (by rfl) mD kD bD .nil pass0 (pa_cons (pv 0) (pa_cons (pe_callB call_len_seq (by rfl) T.b.len PySem.boot_len (pa_cons (pv 0) pa_nil)) pa_nil))))) (pss_one (ps_raise throwV rfl (by rfl) mC xC (pa_cons pe_str pa_nil))) pss_nil)
      (pss_one (ps_ret (pe_callTy call_tuple_of (by rfl) T.b.tup boot_ty_tuple (pa_cons (pv 0) pa_nil)))))), ?_⟩
    refine ⟨_, rfl, l, _, rfl, .inl hl, _, _, rfl, rfl, _, rfl, ?_⟩
    by_cases h1 : 1 ≤ xs.length
    · rw [if_pos (decide_eq_true (by omega))]
      refine ⟨_, _, rfl, rfl, _, rfl, ?_⟩
      by_cases h2 : xs.length ≤ 60
      · rw [decide_eq_true (by omega)]
        refine iteF ?_
        refine ⟨_, rfl, _, rfl, l, _, rfl, .inl hl, l, xs, (xs.length : Int), rfl, hl, hz, hp, fun H1 s1 => ⟨_, rfl, ?_⟩⟩
        cases hdv : diffG (xs.length : Int) [] xs with
        | false => exact iteT ⟨(by show 1 ≤ sizeLine; decide), qE (not_good_diff hdv) _ s1⟩
        | true =>
          refine iteF ⟨_, rfl, l, _, rfl, .inl ⟨s1.seq hl, fun t ht => q ⟨h1, h2, hdv⟩ t _ (s1.free ht) upd_same (s1.trans (same_upd ht))⟩⟩
      · rw [decide_eq_false (by omega)]
        exact iteT ⟨(by show 1 ≤ sizeLine; decide), qE (fun g => h2 g.2.1) _ (Same.refl _)⟩
    · rw [if_neg (by rw [decide_eq_false (by omega)]; decide)]
      exact ⟨_, rfl, iteT ⟨(by show 1 ≤ sizeLine; decide), qE (fun g => h1 g.1) _ (Same.refl _)⟩⟩
theorem scFirsts : FnScope ["orders", "firsts", "words_ahead", "inner"] ["orders"] (defScope sFirsts) := ⟨rfl, rfl, rfl, by decide +kernel, rfl, by decide +kernel, by decide +kernel⟩
theorem ok_firsts {f : Addr} {fd : FuncData} (F : Fun K "first_numbers" "first_numbers" sFirsts f fd) (T : Txt mg) : FnOk P w K mg base CX0 1 f fd ["orders"] (spFirsts K) := by
  refine F.ok scFirsts (fun vs H Q E h => ?_) (fun cdv A outer s H vs Q E hr h => ?_)
  · obtain ⟨l, ps, xss, rfl, _⟩ := h; rfl
  · obtain ⟨l, ps, xss, rfl, hl, hz, ht, q⟩ := h
    refine ⟨_, pss_cons (ps_set (i := 1) scFirsts.nd rfl (Or.inl rfl) (pe_lst pa_nil))
      (pss_cons (ps_set (i := 2) scFirsts.nd rfl (Or.inl rfl) pe_int)
      (pss_cons (ps_for PassesOwn.never rfl (pi_list (pv 0)) (pg_name (i := 3) scFirsts.nd rfl (Or.inl rfl))
        (pss_cons (ps_expr (pe_bm PySem.F.plainAttrs_list PySem.F.slot_list_append PySem.F.type_list_append mt_append (pv 1) (pa_cons (pv 2) pa_nil)))
        (pss_one (ps_aug (i := 2) scFirsts.nd rfl (Or.inl rfl) (pe_callB call_len_seq (by rfl) T.b.len PySem.boot_len (pa_cons (pv 3) pa_nil)) ip_add))))
      (pss_one (ps_ret (pv 1))))), ?_⟩
    refine ⟨(by show 0 ≤ sizeLine; omega), fun fp hfp => ?_⟩
    have s1 : Same H (upd H fp (.lst [])) := same_upd hfp
    have tl := ht.len
    refine ⟨_, rfl, l, rfl, ⟨_, s1.seq hl⟩, for_list (K := K) (a := l) (xs := ps.map V.ref) (fun i σ H3 => ∃ v, σ = [some (.ref l), some (.ref fp), some (.int (before xss i)), v] ∧ Same H H3 ∧ H3 fp = some (.lst (((List.range i).map fun j => before xss j).map V.int)))
      ⟨none, by rw [before_zero]; rfl, s1, upd_same⟩ (fun i σ H3 _ ⟨_, _, s3, _⟩ => s3.seq hl) ?_ ?_⟩
    · rintro i y σ H3 hi ⟨v, rfl, s3, hF⟩
      obtain ⟨p, hp, rfl⟩ := refs_get hi
      obtain ⟨xs, hx, hpt⟩ := ht.get hp
      have hil : i < ps.length := (List.getElem?_eq_some_iff.mp hp).1
      have np : p ≠ fp := ne_of_none hpt hfp
      refine ⟨_, rfl, .inl ⟨rfl, _, SqL.of hF⟩, _, rfl, fp, _, _, rfl, rfl, hF, small1000 (by simp; omega), ?_⟩
      refine ⟨_, rfl, _, rfl, p, _, rfl, .inr (SqT.of (by rw [upd_ne np]; exact s3 _ _ hpt)), _, _, rfl, rfl, ?_⟩
      refine ⟨some (.ref p), ?_, fun b o e => ?_, ?_⟩
      · rw [before_succ hx, List.length_map]
        rfl
      · rw [upd_ne (ne_of_none e hfp)]
        exact s3 b o e
      · rw [upd_same, List.range_succ, List.map_append, List.map_append]
        rfl
    · rintro σ H3 ⟨v, rfl, s3, hF⟩
      rw [List.length_map, tl] at hF
      exact ⟨_, rfl, q fp H3 hfp hF s3⟩
def spFit (K : PySem.W.Frag) (C : Addr) : Sp := fun vs H Q E => ∃ (l : Addr) (xs : List Int) (n : Nat), vs = [.ref l, .int (n : Int)] ∧ SqL K H l (xs.map V.int) ∧ (xs.length = n → xs.sum ≤ 60 → Q .non H) ∧ (¬ (xs.length = n ∧ xs.sum ≤ 60) → E (.ref C) none H)
theorem scFit : FnScope ["sizes", "many"] ["sizes", "many"] (defScope sFit) := ⟨rfl, rfl, rfl, by decide +kernel, rfl, by decide +kernel, by decide +kernel⟩
theorem ok_fit {f C : Addr} {fd : FuncData} {mw : Tok} (F : Fun K "must_fit" "must_fit" sFit f fd) (T : Txt mg) (mC : mg "NoOrder" = some (.ref C)) (xC : PySem.W.excIn K C bmVE "ValueError.__new__" = true) (mM : mg "MOST_WORDS" = some (.int 60 mw)) : FnOk P w K mg base (CXV P w) 1 f fd ["sizes", "many"] (spFit K C) := by
  refine funV F scFit (fun vs H Q E h => ?_) (fun cdv A outer s H vs Q E hr h => ?_)
  · obtain ⟨l, xs, n, rfl, _⟩ := h; rfl
  · obtain ⟨l, xs, n, rfl, hl, q, qE⟩ := h
    refine ⟨_, pss_cons (ps_if (pt_cmpR op_ne (pe_callB call_len_seq (by rfl) T.b.len PySem.boot_len (pa_cons (pv 0) pa_nil)) (pv 1) (nomark _)) (pss_one (ps_raise throwV rfl (by rfl) mC xC (pa_cons pe_str pa_nil))) pss_nil)
      (pss_one (ps_if (pt_cmpR op_gt (pe_callB (call_sumL rfl) (by rfl) T.sum boot_sum (pa_cons (pv 0) pa_nil)) (pe_glob (v := .int 60) (by rfl) mM ⟨mw, rfl⟩) (nomark _)) (pss_one (ps_raise throwV rfl (by rfl) mC xC (pa_cons pe_str pa_nil))) pss_nil)), ?_⟩
    refine ⟨_, rfl, l, _, rfl, .inl hl, _, rfl, rfl, _, rfl, ?_⟩
    by_cases hne : xs.length = n
    · refine iteNS (by rw [List.length_map, hne]) ?_
      refine ⟨_, rfl, l, xs, rfl, hl, _, _, rfl, rfl, _, rfl, ?_⟩
      refine ite2 (fun c => ?_) (fun c => ?_)
      · have c : 60 < xs.sum := by simpa using c
        exact ⟨(by show 1 ≤ sizeLine; decide), qE (fun z => by omega)⟩
      · have c : xs.sum ≤ 60 := by
          have : ¬ 60 < xs.sum := by simpa using c
          omega
        exact q hne c
    · refine ite2 (fun _ => ?_) (fun c => ?_)
      · exact ⟨(by show 1 ≤ sizeLine; decide), qE (fun z => hne z.1)⟩
      · exfalso
        apply c
        rw [List.length_map]
        simp only [Bool.not_eq_true', decide_eq_false_iff_not]
        intro z
        have z : ((xs.length : Nat) : Int) = (n : Nat) := V.int.inj z
        omega
def putComp1 (s : Stmt) : Scope := match (defBody s).getD 0 (.Pass ⟨0, 0, 0, 0⟩) with
  | .Expr (.Call _ (.ListComp _ _ sc _ :: _) _ _) _ => sc
  | _ => defScope s
def putComp2 (s : Stmt) : Scope := match (defBody s).getD 3 (.Pass ⟨0, 0, 0, 0⟩) with
  | .For _ _ [.Expr (.Call _ [.ListComp _ _ sc _] _ _) _] _ _ => sc
  | _ => defScope s
abbrev nsPut : List Str := ["order", "orders", "firsts", "together", "word"]
theorem scPut : FnScope nsPut ["order", "orders"] (defScope sPut) := ⟨rfl, rfl, rfl, by decide +kernel, rfl, by decide +kernel, by decide +kernel⟩
theorem csPut1 : CScope (defScope sPut) (putComp1 sPut) "inner" ["inner"] nsPut [] := cs_of (by decide +kernel)
theorem csPut2 : CScope (defScope sPut) (putComp2 sPut) "number" ["number", "firsts", "word"] nsPut [2, 4] := cs_of (by decide +kernel)
theorem ok_put {f f1 f2 C : Addr} {fd fd1 fd2 : FuncData} (F : Fun K "put_together" "put_together" sPut f fd) (T : Txt mg) (G1 : FnOk P w K mg base CX0 1 f1 fd1 ["orders"] (spFirsts K)) (k1 : PySem.W.keepIn K (.ref f1) = true) (m1 : mg "first_numbers" = some (.ref f1)) (b1 : Binds K fd1 ["orders"] [])
    (G2 : FnOk P w K mg base (CXV P w) 1 f2 fd2 ["sizes", "many"] (spFit K C)) (k2 : PySem.W.keepIn K (.ref f2) = true) (m2 : mg "must_fit" = some (.ref f2)) (b2 : Binds K fd2 ["sizes", "many"] []) : FnOk P w K mg base (CXV P w) 2 f fd ["order", "orders"] (spPut K C) := by
  refine funV F scPut (fun vs H Q E h => ?_) (fun cdv A outer s H vs Q E hr h => ?_)
  · obtain ⟨o, l, ord, ps, xss, rfl, _⟩ := h; rfl
  · obtain ⟨o, l, ord, ps, xss, rfl, hT, hol, hw, hl, hz, ht, hx, q, qE⟩ := h
    have tl := ht.len
    refine ⟨_, pss_cons (ps_expr (pe_call G2 (hr.mono (by decide)) (by rfl) m2 k2 b2 .nil passV (pa_cons (pe_comp rfl csPut1 rfl (pi_list (pv 1)) (fun cl C fp s H => pg_name (i := 0) csPut1.nd rfl (Or.inl rfl)) (fun cl C fp s H => pts_nil) (fun cl C fp s H => pe_callB (r := rLen K) call_lenK (by rfl) T.b.len PySem.boot_len (pa_cons (pv 0) pa_nil))) (pa_cons (pe_callB call_len_seq (by rfl) T.b.len PySem.boot_len (pa_cons (pv 0) pa_nil)) pa_nil))))
      (pss_cons (ps_set (i := 2) scPut.nd rfl (Or.inr rfl) (pe_call G1 (hr.mono (by decide)) (by rfl) m1 k1 b1 .nil pass0 (pa_cons (pv 1) pa_nil)))
      (PSs.nox (pss_cons (ps_set (i := 3) scPut.nd rfl (Or.inl rfl) (pe_lst pa_nil))
      (pss_cons (ps_for PassesOwn.never rfl (pi_tup (pv 0)) (pg_name (i := 4) scPut.nd rfl (Or.inr rfl))
        (pss_one (ps_expr (pe_bm PySem.F.plainAttrs_list PySem.F.slot_list_extend PySem.F.type_list_extend mt_extend (pv 3) (pa_cons (pe_comp rfl csPut2 rfl (pi_tup (pe_ix ix_list (pv 1) (pv 4) (fun _ _ => rfl))) (fun cl C fp s H => pg_name (i := 0) csPut2.nd rfl (Or.inl rfl)) (fun cl C fp s H => pts_nil)
          (fun cl C fp s H => pe_op op_add (pe_ix (r := rIxL K) ix_list (pv 1) (pv 2) (fun _ _ => rfl)) (pv 0))) pa_nil)))))
      (pss_one (ps_ret (pe_callTy call_tuple_of (by rfl) T.b.tup boot_ty_tuple (pa_cons (pv 3) pa_nil)))))))), ?_⟩
    have hlo : (ord.map V.int).length = ord.length := List.length_map ..
    have hlp : (ps.map V.ref).length = xss.length := by rw [List.length_map, tl]
    refine ⟨_, rfl, l, rfl, ⟨_, hl⟩, fun D1 hD1 => comp_list (xs := ps.map V.ref) (fun i => V.int ((xss.getD i []).length : Nat)) (line_mil (by rw [List.length_map]; omega)) (fun acc => (same_upd hD1).seq hl) (fun i y acc R hy hR => ?_) ?_⟩
    · obtain ⟨p, hp, rfl⟩ := refs_get hy
      obtain ⟨xs, hxs, hpt⟩ := ht.get hp
      refine ⟨_, rfl, p, _, rfl, .inr (SqT.of (by rw [upd_ne (ne_of_none hpt hD1)]; exact hpt)), ?_⟩
      rw [List.getD_eq_getElem?_getD, hxs] at hR
      rw [List.length_map]
      exact hR
    · rw [hlp, map_lens]
      have s1 : Same H (upd H D1 (.lst ((lens xss).map V.int))) := same_upd hD1
      have hll : (lens xss).length = xss.length := by unfold lens; rw [List.length_map]
      refine ⟨_, rfl, o, _, rfl, .inr (s1.sqt hT), D1, lens xss, ord.length, (by rw [hlo]; rfl), SqL.of upd_same, fun hne c => ?_, fun hn => qE (fun z => hn ⟨by rw [hll]; exact z.1, z.2⟩) _ s1⟩
      rw [hll] at hne
      generalize upd H D1 (.lst ((lens xss).map V.int)) = H1 at s1 ⊢
      refine ⟨_, rfl, l, ps, xss, rfl, s1.seq hl, hz, ht.mono s1, fun f1 H2 n1 e1 s2 => ?_⟩
      have s12 : Same H H2 := s1.trans s2
      refine ⟨(by show 0 ≤ sizeLine; omega), fun tp htp => ?_⟩
      have nf : f1 ≠ tp := ne_of_none e1 htp
      have htp0 : H tp = none := s12.free htp
      refine ⟨_, rfl, o, rfl, ⟨_, (s12.trans (same_upd htp)).sqt hT⟩, for_tup (K := K) (a := o) (xs := ord.map V.int) (fun i σ H3 => ∃ v, σ = [some (.ref o), some (.ref l), some (.ref f1), some (.ref tp), v] ∧ Same H H3 ∧ H3 f1 = some (.lst (((List.range xss.length).map fun i => before xss i).map V.int)) ∧ H3 tp = some (.lst ((togF (ord.take i) xss).map V.int)))
        ⟨none, rfl, s12.trans (same_upd htp), by rw [upd_ne nf]; exact e1, upd_same⟩ (fun i σ H3 _ ⟨_, _, s3, _⟩ => s3.sqt hT) ?_ ?_⟩
      · rintro i y σ H3 hi ⟨v, rfl, s3, hF, hTp⟩
        obtain ⟨z, hzi, rfl⟩ := ints_get hi
        have hzm := hw z (List.mem_of_getElem? hzi)
        have hil : i < ord.length := (List.getElem?_eq_some_iff.mp hzi).1
        have hzn : z.toNat < ps.length := by omega
        obtain ⟨p, hp⟩ : ∃ p, ps[z.toNat]? = some p := ⟨ps[z.toNat], by simp [hzn]⟩
        obtain ⟨xs, hxs, hpt⟩ := ht.get hp
        have hpt3 := s3 _ _ hpt
        have hxl : xs.length ≤ 1000 := hx xs (List.mem_of_getElem? hxs)
        have ez : ((z.toNat : Nat) : Int) = z := by omega
        refine ⟨_, rfl, .inl ⟨rfl, _, SqL.of hTp⟩, _, rfl, _, rfl, l, _, z, V.ref p, rfl, rfl, s3.seq hl, (by rw [← ez]; exact at_refs hp), p, rfl, ⟨_, SqT.of hpt3⟩, fun D3 hD3 => ?_⟩
        refine comp_tup (K := K) (xs := xs.map V.int) (fun j => V.int (before xss z.toNat + xs.getD j 0)) (line_mil (by rw [List.length_map]; omega)) (fun acc => SqT.of (by rw [upd_ne (ne_of_none hpt3 hD3)]; exact hpt3)) (fun j y acc R hy hR => ?_) ?_
        · obtain ⟨u, hu, rfl⟩ := ints_get hy
          rw [List.getD_eq_getElem?_getD, hu] at hR
          refine ⟨_, rfl, _, rfl, f1, _, z, V.int (before xss z.toNat), rfl, rfl, SqL.of (by rw [upd_ne (ne_of_none hF hD3)]; exact hF), ?_, _, rfl, _, _, rfl, rfl, hR⟩
          rw [← ez]
          refine at_ints ?_
          rw [List.getElem?_map, List.getElem?_range (by omega)]
          rfl
        · have el : (List.range (xs.map V.int).length).map (fun j => V.int (before xss z.toNat + xs.getD j 0)) = (xs.map fun u => before xss z.toNat + u).map V.int := by
            rw [List.length_map, map_getD xs (fun u => V.int (before xss z.toNat + u)), List.map_map]
            rfl
          rw [el]
          have nD : tp ≠ D3 := ne_of_none hTp hD3
          have hlen := togF_len hx (ord.take i)
          rw [List.length_take] at hlen
          refine ⟨tp, D3, _, _, rfl, rfl, (by rw [upd_ne nD]; exact hTp), upd_same, line_mil (by simp only [List.length_map]; omega), ?_⟩
          refine ⟨_, rfl, fun b ob e => ?_, ?_, ?_⟩
          · rw [upd_ne (ne_of_none e htp0), upd_ne (ne_of_none (s3 b ob e) hD3)]
            exact s3 b ob e
          · rw [upd_ne nf, upd_ne (ne_of_none hF hD3)]
            exact hF
          · rw [upd_same, take_succ_get hzi, togF_append, List.getD_eq_getElem?_getD, hxs, List.map_append]
            rfl
      · rintro σ H3 ⟨v, rfl, s3, hF, hTp⟩
        rw [hlo, List.take_length] at hTp
        exact ⟨_, rfl, tp, _, rfl, .inl ⟨SqL.of hTp, fun t htt => q hne c t _ (s3.free htt) upd_same (s3.trans (same_upd htt))⟩⟩
theorem scKnot : FnScope ["thing"] ["thing"] (defScope sKnot) := ⟨rfl, rfl, rfl, by decide +kernel, rfl, by decide +kernel, by decide +kernel⟩
theorem ok_knot {f : Addr} {fd : FuncData} (F : Fun K "is_knot" "is_knot" sKnot f fd) (T : Txt mg) : FnOk P w K mg base CX0 1 f fd ["thing"] (spKnot K) := by
  refine F.ok scKnot (fun vs H Q E h => ?_) (fun cdv A outer s H vs Q E hr h => ?_)
  · obtain ⟨v, rfl, _⟩ := h; rfl
  · obtain ⟨v, rfl, h⟩ := h
    refine ⟨_, (pss_cons (ps_if (pw_or (pt_not (pt_val (pe_callB call_isi (by rfl) T.b.isi boot_isi (pa_cons (pv 0) (pa_cons (pe_bltn (v := .ty "tuple") (by rfl) T.b.tup boot_ty_tuple rfl) pa_nil))))) (pw_or1 (pt_cmpR op_ne (pe_callB call_len_seq (by rfl) T.b.len PySem.boot_len (pa_cons (pv 0) pa_nil)) pe_int (nomark _)))).pt (pss_one (ps_ret pe_bl)) pss_nil)
      (pss_cons (ps_if (pw_or (pt_not (pt_val (pe_callB call_isi (by rfl) T.b.isi boot_isi (pa_cons (pe_ix ix_tup (pv 0) pe_int (fun _ _ => rfl)) (pa_cons (pe_bltn (v := .ty "str") (by rfl) T.str boot_ty_str rfl) pa_nil))))) (pw_or1 (pt_cmpR op_notIn_seq (pe_ix ix_tup (pv 0) pe_int (fun _ _ => rfl)) (pe_tup (pa_cons pe_str (pa_cons pe_str pa_nil))) rfl))).pt (pss_one (ps_ret pe_bl)) pss_nil)
      (pss_one (ps_ret (pe_and (pe_callB call_isi (by rfl) T.b.isi boot_isi (pa_cons (pe_ix ix_tup (pv 0) pe_int (fun _ _ => rfl)) (pa_cons (pe_bltn (v := .ty "tuple") (by rfl) T.b.tup boot_ty_tuple rfl) pa_nil))) (pe_one (pe_cmpR op_ge (pe_callB call_len_seq (by rfl) T.b.len PySem.boot_len (pa_cons (pe_ix ix_tup (pv 0) pe_int (fun _ _ => rfl)) pa_nil)) pe_int (nomark _)))))))), ?_⟩
    rcases h with ⟨h, q⟩ | ⟨a, b, k, us, rfl, e1, e2, h2, hz, q⟩
    · cases h with
      | ty t k => exact ⟨_, rfl, _, _, _, _, rfl, t, k, _, rfl, iteT (iteT (q _ (Same.refl _)))⟩
      | @len a xs e k =>
        refine ⟨_, rfl, _, _, _, _, rfl, .tup e, kit_same _ _, _, rfl, iteF ?_⟩
        refine ⟨_, rfl, a, _, rfl, .inr (SqT.of e), rfl, _, rfl, ?_⟩
        rw [decide_eq_false (by intro z; have z : ((xs.length : Nat) : Int) = 2 := V.int.inj z; omega)]
        exact iteT (q _ (Same.refl _))
      | @notStr a x y t e ty k _ =>
        refine ⟨_, rfl, _, _, _, _, rfl, .tup e, kit_same _ _, _, rfl, iteF ?_⟩
        refine ⟨_, rfl, a, _, rfl, .inr (SqT.of e), rfl, _, rfl, iteF ?_⟩
        exact ⟨_, rfl, a, _, 0, _, rfl, rfl, SqT.of e, rfl, _, _, _, _, rfl, ty, k, _, rfl, iteT (iteT (q _ (Same.refl _)))⟩
      | @kind a z y e n1 n2 _ =>
        refine ⟨_, rfl, _, _, _, _, rfl, .tup e, kit_same _ _, _, rfl, iteF ?_⟩
        refine ⟨_, rfl, a, _, rfl, .inr (SqT.of e), rfl, _, rfl, iteF ?_⟩
        refine ⟨_, rfl, a, _, 0, _, rfl, rfl, SqT.of e, rfl, _, _, _, _, rfl, .str z, kit_same _ _, _, rfl, iteF ?_⟩
        refine ⟨_, rfl, a, _, 0, _, rfl, rfl, SqT.of e, rfl, (by show 2 ≤ sizeLine; decide), fun p hp => ⟨p, _, rfl, .inr (SqT.of upd_same), rfl, rfl, _, rfl, ?_⟩⟩
        rw [kS_notIn n1 n2]
        exact iteT (q _ (same_upd hp))
      | @notTup a k y t e ty kt =>
        refine ⟨_, rfl, _, _, _, _, rfl, .tup e, kit_same _ _, _, rfl, iteF ?_⟩
        refine ⟨_, rfl, a, _, rfl, .inr (SqT.of e), rfl, _, rfl, iteF ?_⟩
        refine ⟨_, rfl, a, _, 0, _, rfl, rfl, SqT.of e, rfl, _, _, _, _, rfl, .str _, kit_same _ _, _, rfl, iteF ?_⟩
        refine ⟨_, rfl, a, _, 0, _, rfl, rfl, SqT.of e, rfl, (by show 2 ≤ sizeLine; decide), fun p hp => ⟨p, _, rfl, .inr (SqT.of upd_same), rfl, rfl, _, rfl, ?_⟩⟩
        rw [kS_in]
        refine iteF ?_
        have e' : (upd H p (.tup [V.str "+", V.str "-"])) a = some (.tup [V.str (kS k), y]) := same_upd hp _ _ e
        exact ⟨_, rfl, a, _, 1, _, rfl, rfl, SqT.of e', rfl, _, _, _, _, rfl, Same.ty (same_upd hp) ty, kt, _, rfl, iteF (q _ (same_upd hp))⟩
      | @few a b k xs e1 e2 hlt =>
        refine ⟨_, rfl, _, _, _, _, rfl, .tup e1, kit_same _ _, _, rfl, iteF ?_⟩
        refine ⟨_, rfl, a, _, rfl, .inr (SqT.of e1), rfl, _, rfl, iteF ?_⟩
        refine ⟨_, rfl, a, _, 0, _, rfl, rfl, SqT.of e1, rfl, _, _, _, _, rfl, .str _, kit_same _ _, _, rfl, iteF ?_⟩
        refine ⟨_, rfl, a, _, 0, _, rfl, rfl, SqT.of e1, rfl, (by show 2 ≤ sizeLine; decide), fun p hp => ⟨p, _, rfl, .inr (SqT.of upd_same), rfl, rfl, _, rfl, ?_⟩⟩
        rw [kS_in]
        refine iteF ?_
        have e1' : (upd H p (.tup [V.str "+", V.str "-"])) a = some (.tup [V.str (kS k), .ref b]) := same_upd hp _ _ e1
        have e2' : (upd H p (.tup [V.str "+", V.str "-"])) b = some (.tup xs) := same_upd hp _ _ e2
        refine ⟨_, rfl, a, _, 1, _, rfl, rfl, SqT.of e1', rfl, _, _, _, _, rfl, .tup e2', kit_same _ _, _, rfl, iteT ?_⟩
        refine ⟨_, rfl, a, _, 1, _, rfl, rfl, SqT.of e1', rfl, b, _, rfl, .inr (SqT.of e2'), _, _, rfl, rfl, ?_⟩
        show Q (V.bl (decide ((2 : Int) ≤ (xs.length : Int)))) _
        rw [decide_eq_false (by omega)]
        exact q _ (same_upd hp)
    · refine ⟨_, rfl, _, _, _, _, rfl, .tup e1, kit_same _ _, _, rfl, iteF ?_⟩
      refine ⟨_, rfl, a, _, rfl, .inr (SqT.of e1), rfl, _, rfl, iteF ?_⟩
      refine ⟨_, rfl, a, _, 0, _, rfl, rfl, SqT.of e1, rfl, _, _, _, _, rfl, .str _, kit_same _ _, _, rfl, iteF ?_⟩
      refine ⟨_, rfl, a, _, 0, _, rfl, rfl, SqT.of e1, rfl, (by show 2 ≤ sizeLine; decide), fun p hp => ⟨p, _, rfl, .inr (SqT.of upd_same), rfl, rfl, _, rfl, ?_⟩⟩
      rw [kS_in]
      refine iteF ?_
      have e1' : (upd H p (.tup [V.str "+", V.str "-"])) a = some (.tup [V.str (kS k), .ref b]) := same_upd hp _ _ e1
      have e2' : (upd H p (.tup [V.str "+", V.str "-"])) b = some (.tup us) := same_upd hp _ _ e2
      refine ⟨_, rfl, a, _, 1, _, rfl, rfl, SqT.of e1', rfl, _, _, _, _, rfl, .tup e2', kit_same _ _, _, rfl, iteT ?_⟩
      refine ⟨_, rfl, a, _, 1, _, rfl, rfl, SqT.of e1', rfl, b, _, rfl, .inr (SqT.of e2'), _, _, rfl, rfl, ?_⟩
      show Q (V.bl (decide ((2 : Int) ≤ (us.length : Int)))) _
      rw [decide_eq_true (by omega)]
      exact q _ (same_upd hp)
def isnComp (s : Stmt) : Scope := match (defBody s).getD 2 (.Pass ⟨0, 0, 0, 0⟩) with
  | .While _ [_, _, .If _ _ [.If _ [.Expr (.Call _ [.ListComp _ _ sc _] _ _) _] _ _] _] _ _ => sc
  | _ => defScope s
abbrev nsIsNest : List Str := ["thing", "words", "waiting", "entry"]
theorem scIsNest : FnScope nsIsNest ["thing"] (defScope sIsNest) := ⟨rfl, rfl, rfl, by decide +kernel, rfl, by decide +kernel, by decide +kernel⟩
theorem csIsNest : CScope (defScope sIsNest) (isnComp sIsNest) "part" ["part", "entry"] nsIsNest [3] := cs_of (by decide +kernel)
theorem ok_isnest {f fK : Addr} {fd fdK : FuncData} {mw : Tok} (F : Fun K "is_nest" "is_nest" sIsNest f fd) (T : Txt mg) (GK : FnOk P w K mg base CX0 1 fK fdK ["thing"] (spKnot K)) (kK : PySem.W.keepIn K (.ref fK) = true) (mK : mg "is_knot" = some (.ref fK)) (bK : Binds K fdK ["thing"] [])
    (mM : mg "MOST_WORDS" = some (.int 60 mw)) : FnOk P w K mg base CX0 2 f fd ["thing"] (spIsNest K) := by
  refine F.ok scIsNest (fun vs H Q E h => ?_) (fun cdv A outer s H vs Q E hr h => ?_)
  · obtain ⟨v, n, rfl, _⟩ := h; rfl
  · obtain ⟨v, n, rfl, hN, q⟩ := h
    refine ⟨_, (pss_cons (ps_set (i := 1) scIsNest.nd rfl (Or.inl rfl) pe_int)
      (pss_cons (ps_set (i := 2) scIsNest.nd rfl (Or.inl rfl) (pe_lst (pa_cons (pe_tup (pa_cons (pv 0) (pa_cons pe_str pa_nil))) pa_nil)))
      (pss_cons (ps_while PassesOwn.never (pt_truth (pv 2) (fun _ => rfl))
        (pss_cons (ps_if (pt_cmpR op_gt (pe_op op_add (pv 1) (pe_callB call_len_seq (by rfl) T.b.len PySem.boot_len (pa_cons (pv 2) pa_nil))) (pe_glob (v := .int 60) (by rfl) mM ⟨mw, rfl⟩) (nomark _)) (pss_one (ps_ret pe_bl)) pss_nil)
      (pss_cons (ps_set (i := 3) scIsNest.nd rfl (Or.inr rfl) (pe_bm0 PySem.F.plainAttrs_list PySem.F.slot_list_pop PySem.F.type_list_pop mt_pop (pv 2)))
      (pss_one (ps_if (pt_cmpR op_isN (pe_ix ix_tup (pv 3) pe_int (fun _ _ => rfl)) pe_non (nomark _)) (pss_one (ps_aug (i := 1) scIsNest.nd rfl (Or.inl rfl) pe_int ip_add))
              (pss_one (ps_if (pw_and (pt_val (pe_call GK hr (by rfl) mK kK bK .nil pass0 (pa_cons (pe_ix ix_tup (pv 3) pe_int (fun _ _ => rfl)) pa_nil))) (pw_and1 (pt_cmpR op_ne (pe_ix ix_tup (pe_ix ix_tup (pv 3) pe_int (fun _ _ => rfl)) pe_int (fun _ _ => rfl)) (pe_ix ix_tup (pv 3) pe_int (fun _ _ => rfl)) (nomark _)))).pt
                (pss_one (ps_expr (pe_bm PySem.F.plainAttrs_list PySem.F.slot_list_extend PySem.F.type_list_extend mt_extend (pv 2) (pa_cons (pe_comp rfl csIsNest rfl (pi_tup (pe_ix ix_tup (pe_ix ix_tup (pv 3) pe_int (fun _ _ => rfl)) pe_int (fun _ _ => rfl))) (fun cl C fp s H => pg_name (i := 0) csIsNest.nd rfl (Or.inl rfl)) (fun cl C fp s H => pts_nil)
                  (fun cl C fp s H => pe_tup (pa_cons (pv 0) (pa_cons (pe_ix (r := rIxT K) ix_tup (pe_ix (r := rIxT K) ix_tup (pv 1) pe_int (fun _ _ => rfl)) pe_int (fun _ _ => rfl)) pa_nil)))) pa_nil))))
                (pss_one (ps_ret pe_bl)))))))))
      (pss_one (ps_ret pe_bl))))), ?_⟩
    refine ⟨_, rfl, (by show 2 ≤ sizeLine; decide), fun t0 ht0 => ⟨(by show 1 ≤ sizeLine; decide), fun wl hwl => ?_⟩⟩
    have hw0 : H wl = none := (same_upd ht0).free hwl
    have sU : ∀ (G : Hp) (o : HO), Same H G → Same H (upd G wl o) := fun G o h b ob e => by rw [upd_ne (ne_of_none e hw0)]; exact h b ob e
    refine ⟨fun m σ H' => ∃ (st : List (Nest × Option Bool)) (ts : List Addr) (wd : Nat) (v3 : Option V), σ = [some v, some (.int (wd : Int)), some (.ref wl), v3] ∧ Same H H' ∧ H' wl = some (.lst (ts.reverse.map V.ref)) ∧ WaitAt K H' st ts ∧ m = waitS st ∧ wd ≤ 60 ∧ okN n = (waitOk st && decide (wd + waitW st ≤ 60)),
      ⟨waitS [(n, none)], [(n, none)], [t0], 0, none, rfl, sU _ _ (same_upd ht0), upd_same, ⟨t0, [], v, rfl, ?_, ?_, rfl⟩, rfl, by decide, ?_⟩, ?_⟩
    · rw [upd_ne (ne_of_none upd_same hwl)]; exact upd_same
    · exact (hN.mono (same_upd ht0)).mono (same_upd hwl)
    · unfold okN waitOk waitW
      simp
    rintro m σ H' ⟨st, ts, wd, v3, rfl, sx, eW, hWt, rfl, hwd, hok⟩
    have hlen := hWt.len
    have hww := hWt.words
    cases st with
    | nil =>
      have e0 : ts = [] := hWt
      subst e0
      refine ⟨_, rfl, false, .inl ⟨_, SqL.of eW, rfl⟩, iteF ?_⟩
      have : okN n = true := by
        rw [hok]
        show (true && decide (wd + 0 ≤ 60)) = true
        simp
        omega
      rw [this] at q
      exact q _ sx
    | cons p r =>
      obtain ⟨t, tr, u, e0, h1, h2, h3⟩ := hWt
      subst e0
      have hrl : (tr.reverse.map V.ref ++ [V.ref t]) = ((t :: tr).reverse.map V.ref) := by simp
      rw [← hrl] at eW
      have hlr := h3.len
      refine ⟨_, rfl, true, .inl ⟨_, SqL.of eW, (by simp)⟩, iteT ?_⟩
      refine ⟨fun σ' Hx => ∃ (st : List (Nest × Option Bool)) (ts : List Addr) (wd : Nat) (v3 : Option V), σ' = [some v, some (.int (wd : Int)), some (.ref wl), v3] ∧ Same H Hx ∧ Hx wl = some (.lst (ts.reverse.map V.ref)) ∧ WaitAt K Hx st ts ∧ waitS st < waitS (p :: r) ∧ wd ≤ 60 ∧ okN n = (waitOk st && decide (wd + waitW st ≤ 60)), ?_, ?_⟩
      · rintro σ' Hx ⟨st, ts, wd', v3', e, a1, a2, a3, a4, a5, a6⟩
        exact ⟨_, a4, st, ts, wd', v3', e, a1, a2, a3, rfl, a5, a6⟩
      have hcount : (tr.reverse.map V.ref ++ [V.ref t]).length = (p :: r).length := by simp; omega
      refine ⟨_, rfl, _, rfl, wl, _, rfl, .inl (SqL.of eW), _, _, rfl, rfl, _, _, rfl, rfl, _, rfl, ?_⟩
      by_cases hbig : 60 < (wd : Int) + ((tr.reverse.map V.ref ++ [V.ref t]).length : Int)
      · rw [decide_eq_true hbig]
        refine iteT ?_
        have : okN n = false := by
          rw [hok]
          have : ¬ (wd + waitW (p :: r) ≤ 60) := by omega
          simp [this]
        rw [this] at q
        exact q _ sx
      rw [decide_eq_false hbig]
      refine iteF ?_
      refine ⟨_, rfl, .inl ⟨rfl, _, SqL.of eW⟩, wl, _, V.ref t, rfl, rfl, eW, (by simp), ?_⟩
      rw [List.dropLast_concat]
      have eW1 : (upd H' wl (.lst (tr.reverse.map V.ref))) wl = some (.lst (tr.reverse.map V.ref)) := upd_same
      have s1 := sU _ (.lst (tr.reverse.map V.ref)) sx
      have h1' : (upd H' wl (.lst (tr.reverse.map V.ref))) t = some (.tup [u, .str (aS p.2)]) := by rw [upd_ne (ne_of h1 eW (by intro z; cases z))]; exact h1
      have h2' := NestAt.updL (vs := tr.reverse.map V.ref) eW h2
      have h3' := WaitAt.updL (vs := tr.reverse.map V.ref) eW h3
      generalize upd H' wl (.lst (tr.reverse.map V.ref)) = H1 at eW1 s1 h1' h2' h3' ⊢
      have hsz : waitS (p :: r) = sizeN p.1 + waitS r := by simp [waitS]
      have hwz : waitW (p :: r) = words p.1 + waitW r := by simp [waitW]
      have hoz : waitOk (p :: r) = (valid p.2 p.1 && waitOk r) := by simp [waitOk]
      rw [hwz, hoz] at hok
      have hsp := size_pos p.1
      simp only [List.length_cons] at hcount
      have hlw := h3'.words
      obtain ⟨pn, po⟩ := p
      cases pn with
      | word =>
        have hu : u = .non := h2'
        subst hu
        refine ⟨_, rfl, t, _, 0, _, rfl, rfl, SqT.of h1', rfl, rfl, _, rfl, iteT ?_⟩
        refine ⟨_, rfl, _, _, rfl, rfl, ?_⟩
        refine ⟨r, tr, wd + 1, _, rfl, s1, eW1, h3', by rw [hsz]; omega, by omega, ?_⟩
        rw [hok]
        have : decide (wd + (words Nest.word + waitW r) ≤ 60) = decide (wd + 1 + waitW r ≤ 60) := by
          have : words Nest.word = 1 := by simp [words]
          rw [this]
          congr 1
          simp only [eq_iff_iff]
          omega
        rw [this]
        simp [valid]
      | bad =>
        obtain ⟨hu, hk⟩ := h2'
        refine ⟨_, rfl, t, _, 0, _, rfl, rfl, SqT.of h1', rfl, rfl, _, rfl, ?_⟩
        rw [decide_eq_false hu]
        refine iteF ⟨_, rfl, t, _, 0, _, rfl, rfl, SqT.of h1', rfl, u, rfl, .inl ⟨hk, fun H2 s2 => ⟨_, rfl, iteF (iteF ?_)⟩⟩⟩
        have : okN n = false := by rw [hok]; simp [valid]
        rw [this] at q
        exact q _ (s1.trans s2)
      | knot k ps =>
        obtain ⟨a, b, us, rfl, ea, eb, hu2, hu3, hps⟩ := h2'
        refine ⟨_, rfl, t, _, 0, _, rfl, rfl, SqT.of h1', rfl, rfl, _, rfl, iteF ?_⟩
        refine ⟨_, rfl, t, _, 0, _, rfl, rfl, SqT.of h1', rfl, _, rfl, .inr ⟨a, b, k, us, rfl, ea, eb, hu2, hu3, fun H2 s2 => ⟨_, rfl, iteT ?_⟩⟩⟩
        have h1'' := s2 _ _ h1'
        have ea' := s2 _ _ ea
        have eb' := s2 _ _ eb
        refine ⟨_, rfl, t, _, 0, _, rfl, rfl, SqT.of h1'', rfl, a, _, 0, _, rfl, rfl, SqT.of ea', rfl, _, rfl, t, _, 1, _, rfl, rfl, SqT.of h1'', rfl, rfl, _, rfl, ?_⟩
        rw [kS_ne]
        by_cases hsame : po = some k
        · rw [decide_eq_true hsame]
          refine iteF ?_
          have : okN n = false := by rw [hok]; simp [valid, hsame]
          rw [this] at q
          exact q _ (s1.trans s2)
        rw [decide_eq_false hsame]
        refine iteT ?_
        have eW2 := s2 _ _ eW1
        have S2 := s1.trans s2
        have hps' := NestsAt.mono s2 hps
        have h3'' := h3'.mono s2
        refine ⟨_, rfl, .inl ⟨rfl, _, SqL.of eW2⟩, _, rfl, t, _, 0, _, rfl, rfl, SqT.of h1'', rfl, a, _, 1, _, rfl, rfl, SqT.of ea', rfl, b, rfl, ⟨_, SqT.of eb'⟩, fun D hD => ?_⟩
        have hpl := hps'.len
        refine comp_inv (n := us.length) (fun i acc Hc => ∃ ts' : List Addr, acc = ts'.map V.ref ∧ ts'.length = i ∧ Hc D = some (.lst acc) ∧ Same H2 Hc ∧ WaitAt K Hc (within k (ps.take i)) ts') ⟨[], rfl, rfl, upd_same, same_upd hD, rfl⟩ ?_ (line1000 hu3) ?_ ?_ ?_
        · rintro i acc Hc ⟨ts', rfl, hl, e, _⟩
          exact ⟨e, by rw [List.length_map, hl]⟩
        · rintro i acc Hc hi ⟨ts', rfl, hl, e, sc, _⟩
          exact ⟨us, us[i], SqT.of (sc _ _ eb'), List.getElem?_eq_getElem hi⟩
        · rintro acc Hc ⟨ts', rfl, hl, e, sc, hw⟩
          refine ⟨⟨us, SqT.of (sc _ _ eb'), Nat.le_refl _⟩, ?_⟩
          rw [← hpl, List.take_length] at hw
          refine ⟨wl, D, _, _, rfl, rfl, sc _ _ eW2, e, line_mil (by simp; omega), ?_⟩
          have eWc := sc _ _ eW2
          refine ⟨(within k ps).reverse ++ r, ts'.reverse ++ tr, wd, _, rfl, sU _ _ (S2.trans sc), ?_, ?_, ?_, hwd, ?_⟩
          · rw [upd_same]
            simp
          · exact WaitAt.updL eWc (WaitAt.app hw.rev (h3''.mono sc))
          · rw [waitS_app, waitS_rev, within_s, hsz]
            simp only [sizeN]
            omega
          · rw [hok, waitW_app, waitW_rev, within_w, waitOk_app, waitOk_rev, within_ok]
            have hv : valid po (Nest.knot k ps) = validL k ps := by simp [valid, hsame]
            have hwk : words (Nest.knot k ps) = wordsL ps := by simp [words]
            show (valid po (Nest.knot k ps) && waitOk r && decide (wd + (words (Nest.knot k ps) + waitW r) ≤ 60)) = _
            rw [hv, hwk]
        · rintro i acc Hc y H5 R hi ⟨ts', rfl, hl, e, sc, hw⟩ ⟨rfl, hy⟩ hR
          have hyi := hy _ (SqT.of (sc _ _ eb'))
          obtain ⟨nn, hnn, hnv⟩ := hps'.get hyi
          refine ⟨_, rfl, _, rfl, t, _, 0, _, rfl, rfl, SqT.of (sc _ _ h1''), rfl, a, _, 0, _, rfl, rfl, SqT.of (sc _ _ ea'), rfl, (by show 2 ≤ sizeLine; decide), fun q1 hq1 => hR _ _ (same_upd hq1 _ _ e) ?_⟩
          refine ⟨ts' ++ [q1], by simp, by simp [hl], upd_same, fun b' o' e' => ?_, ?_⟩
          · rw [upd_ne (ne_of_none e' hD)]
            exact same_upd hq1 _ _ (sc _ _ e')
          · have hcat : within k (ps.take (i + 1)) = within k (ps.take i) ++ [(nn, some k)] := by
              rw [List.take_succ, hnn]
              simp [within]
            rw [hcat]
            refine WaitAt.updL (same_upd hq1 _ _ e) (WaitAt.app (hw.mono (same_upd hq1)) ⟨q1, [], y, rfl, upd_same, ?_, rfl⟩)
            exact (hnv.mono sc).mono (same_upd hq1)
theorem scMust : FnScope ["thing"] ["thing"] (defScope sMust) := ⟨rfl, rfl, rfl, by decide +kernel, rfl, by decide +kernel, by decide +kernel⟩
theorem ok_must {f fN C : Addr} {fd fdN : FuncData} (F : Fun K "must_be_nest" "must_be_nest" sMust f fd) (GN : FnOk P w K mg base CX0 2 fN fdN ["thing"] (spIsNest K)) (kN : PySem.W.keepIn K (.ref fN) = true) (mN : mg "is_nest" = some (.ref fN)) (bN : Binds K fdN ["thing"] [])
    (mC : mg "NoNest" = some (.ref C)) (xC : PySem.W.excIn K C bmVE "ValueError.__new__" = true) : FnOk P w K mg base (CXV P w) 3 f fd ["thing"] (spMust K C) := by
  refine funV F scMust (fun vs H Q E h => ?_) (fun cdv A outer s H vs Q E hr h => ?_)
  · obtain ⟨v, n, rfl, _⟩ := h; rfl
  · obtain ⟨v, n, rfl, hN, q, qE⟩ := h
    refine ⟨_, (pss_one (ps_if (pt_not (pt_val (pe_call GN hr (by rfl) mN kN bN .nil pass0 (pa_cons (pv 0) pa_nil)))) (pss_one (ps_raise throwV rfl (by rfl) mC xC (pa_cons pe_str pa_nil))) pss_nil)), ?_⟩
    refine ⟨_, rfl, v, n, rfl, hN, fun H1 s1 => ⟨_, rfl, ?_⟩⟩
    cases ho : okN n with
    | true => exact iteF (q ho _ s1)
    | false => exact iteT ⟨(by show 1 ≤ sizeLine; decide), qE ho _ s1⟩
theorem has_must {C : Addr} {mw : Tok} (D0 : Def K mg "is_nest" s_is_nest ["thing"]) (D1 : Def K mg "is_knot" s_is_knot ["thing"]) (D2 : Def K mg "must_be_nest" s_must_be_nest ["thing"]) (T : Txt mg) (mM : mg "MOST_WORDS" = some (.int 60 mw)) (mC : mg "NoNest" = some (.ref C)) (xC : PySem.W.excIn K C bmVE "ValueError.__new__" = true) :
    Has P w K mg base (CXV P w) 3 "must_be_nest" ["thing"] (spMust K C) := by
  obtain ⟨f0, fd0, F0, k0, m0, b0⟩ := D0.ex
  obtain ⟨f1, fd1, F1, k1, m1, b1⟩ := D1.ex
  obtain ⟨f2, fd2, F2, k2, m2, b2⟩ := D2.ex
  exact ⟨f2, fd2, ok_must F2 (ok_isnest F0 T (ok_knot F1 T) k1 m1 b1 mM) k0 m0 b0 mC xC, k2, m2, b2⟩
def cwComp (s : Stmt) : Scope := match (defBody s).getD 1 (.Pass ⟨0, 0, 0, 0⟩) with
  | .Return (some (.Call _ [.ListComp _ _ sc _] _ _)) _ => sc
  | _ => defScope s
theorem scCountW : FnScope ["nest"] ["nest"] (defScope sCountW) := ⟨rfl, rfl, rfl, by decide +kernel, rfl, by decide +kernel, by decide +kernel⟩
theorem csCountW : CScope (defScope sCountW) (cwComp sCountW) "part" ["part"] ["nest"] [] := cs_of (by decide +kernel)
theorem ok_countW {f : Addr} {fd : FuncData} (F : Fun K "count_words" "count_words" sCountW f fd) (T : Txt mg) (kS' : PySem.W.keepIn K (.ref f) = true) (mS : mg "count_words" = some (.ref f)) (bS : Binds K fd ["nest"] []) : ∀ d, FnOk P w K mg base CX0 d f fd ["nest"] (spCount K words d)
  | 0 => ⟨fun vs H Q E ⟨_, _, _, _, _, _, h, _⟩ => absurd h (Nat.not_lt_zero _), fun A outer s H args us vs Q E _ _ _ _ ⟨_, _, _, _, _, _, h, _⟩ => absurd h (Nat.not_lt_zero _)⟩
  | d + 1 => by
    have G := ok_countW F T kS' mS bS d
    refine F.ok scCountW (fun vs H Q E h => ?_) (fun cdv A outer s H vs Q E hr h => ?_)
    · obtain ⟨v, n, o, rfl, _⟩ := h; rfl
    · obtain ⟨v, n, o, rfl, hN, hv, hd, q⟩ := h
      refine ⟨_, (pss_cons (ps_if (pt_cmpR op_isN (pv 0) pe_non (nomark _)) (pss_one (ps_ret pe_int)) pss_nil)
      (pss_one (ps_ret (pe_callB (call_sumL rfl) (by rfl) T.sum boot_sum (pa_cons (pe_comp rfl csCountW rfl (pi_tup (pe_ix ix_tup (pv 0) pe_int (fun _ _ => rfl))) (fun cl C fp s H => pg_name (i := 0) csCountW.nd rfl (Or.inl rfl)) (fun cl C fp s H => pts_nil) (fun cl C fp s H => pe_call G hr (by rfl) mS kS' bS .nil pass0 (pa_cons (pv 0) pa_nil))) pa_nil))))), ?_⟩
      cases n with
      | word =>
        have e : v = .non := hN
        subst e
        exact ⟨_, rfl, rfl, _, rfl, iteT (q _ (Same.refl _))⟩
      | bad => exact absurd hv (by simp [valid])
      | knot k ps =>
        obtain ⟨a, b, us, rfl, ea, eb, hu2, hu3, hps⟩ := hN
        have hpl := hps.len
        have hvp : validL k ps = true := by simp only [valid, Bool.and_eq_true] at hv; exact hv.2
        refine ⟨_, rfl, rfl, _, rfl, iteF ?_⟩
        refine ⟨_, rfl, a, _, 1, _, rfl, rfl, SqT.of ea, rfl, b, rfl, ⟨_, SqT.of eb⟩, fun D hD => ?_⟩
        refine comp_inv (n := us.length) (fun i acc Hc => acc = ((ps.take i).map fun n => ((words n : Nat) : Int)).map V.int ∧ Hc D = some (.lst acc) ∧ Same H Hc ∧ i ≤ us.length) ⟨rfl, upd_same, same_upd hD, Nat.zero_le _⟩ ?_ (line1000 hu3) ?_ ?_ ?_
        · rintro i acc Hc ⟨rfl, e, _, hi⟩
          exact ⟨e, by simp; omega⟩
        · rintro i acc Hc hi ⟨rfl, e, sc, _⟩
          exact ⟨us, us[i], SqT.of (sc _ _ eb), List.getElem?_eq_getElem hi⟩
        · rintro acc Hc ⟨rfl, e, sc, _⟩
          refine ⟨⟨us, SqT.of (sc _ _ eb), Nat.le_refl _⟩, ?_⟩
          rw [← hpl, List.take_length] at e
          refine ⟨D, _, rfl, SqL.of e, ?_⟩
          rw [wordsL_sum]
          exact q _ sc
        · rintro i acc Hc y H5 R hi ⟨rfl, e, sc, _⟩ ⟨rfl, hy⟩ hR
          obtain ⟨nn, hnn, hnv⟩ := hps.get (hy _ (SqT.of (sc _ _ eb)))
          have hdn := depthL_get hnn
          simp only [depthN] at hd
          refine ⟨_, rfl, y, nn, some k, rfl, hnv.mono sc, validL_get hvp hnn, by omega, fun H6 s6 => hR _ _ (s6 _ _ e) ⟨?_, upd_same, fun b' o' e' => ?_, hi⟩⟩
          · rw [List.take_succ, hnn, List.map_append, List.map_append]
            rfl
          · rw [upd_ne (ne_of_none e' hD)]
            exact s6 _ _ (sc _ _ e')
theorem has_countw (D : Def K mg "count_words" s_count_words ["nest"]) (T : Txt mg) (d : Nat) : Has P w K mg base CX0 d "count_words" ["nest"] (spCount K words d) := by
  obtain ⟨f, fd, F, k, m, b⟩ := D.ex
  exact ⟨f, fd, ok_countW F T k m b d, k, m, b⟩
abbrev ns_is_of_kind : List Str := ["nest", "kind"]
theorem sc_is_of_kind : FnScope ns_is_of_kind ["nest", "kind"] (defScope s_is_of_kind) := ⟨rfl, rfl, rfl, by decide +kernel, rfl, by decide +kernel, by decide +kernel⟩
theorem ok_ofkind (D : Def K mg "is_of_kind" s_is_of_kind ["nest", "kind"]) : Has P w K mg base CX0 1 "is_of_kind" ["nest", "kind"] (spOfKind K) := by
  refine D.ok sc_is_of_kind (fun vs H Q E h => ?_) (fun f cdv A outer s H vs Q E hr h => ?_)
  · obtain ⟨v, n, o, k, rfl, _⟩ := h; rfl
  · obtain ⟨v, n, o, k, rfl, hN, hv, q⟩ := h
    refine ⟨_, (pss_one (ps_ret (pe_and (pe_cmpR op_notN (pv 0) pe_non (nomark _)) (pe_one (pe_cmpR op_eq (pe_ix ix_tup (pv 0) pe_int (fun _ _ => rfl)) (pv 1) (nomark _)))))), ?_⟩
    cases n with
    | word =>
      have e : v = .non := hN
      subst e
      exact ⟨_, rfl, rfl, _, rfl, iteF q⟩
    | bad => simp [valid] at hv
    | knot k2 ps =>
      obtain ⟨a, b, us, rfl, ea, _⟩ := hN
      refine ⟨_, rfl, rfl, _, rfl, iteT ⟨_, rfl, a, _, 0, _, rfl, rfl, SqT.of ea, rfl, _, rfl, rfl, ?_⟩⟩
      have e : decide (V.str (kS k2) = V.str (kS k)) = ofK k (.knot k2 ps) := by
        show _ = decide (k2 = k)
        cases k <;> cases k2 <;> decide +kernel
      rw [e]
      exact q
abbrev ns_shared_out : List Str := ["nest", "things", "shares", "first", "part", "behind"]
theorem sc_shared_out : FnScope ns_shared_out ["nest", "things"] (defScope s_shared_out) := ⟨rfl, rfl, rfl, by decide +kernel, rfl, by decide +kernel, by decide +kernel⟩
theorem ok_shared (D : Def K mg "shared_out" s_shared_out ["nest", "things"]) (d : Nat) (h_count_words : Has P w K mg base CX0 d "count_words" ["nest"] (spCount K words d)) : Has P w K mg base CX0 (d + 1) "shared_out" ["nest", "things"] (spShared K d) := by
  refine D.ok sc_shared_out (fun vs H Q E h => ?_) (fun f cdv A outer s H vs Q E hr h => ?_)
  · obtain ⟨a, l, k, ps, xs, rfl, _⟩ := h; rfl
  · obtain ⟨a, l, k, ps, xs, rfl, hN, hvp, hd, hl, hz, hw, q⟩ := h
    obtain ⟨a', b, us, e0, ea, eb, hu2, hu3, hps⟩ := hN
    cases e0
    have hpl := hps.len
    refine go_c (ps_set (i := 2) sc_shared_out.nd rfl (Or.inl rfl) (pe_lst pa_nil)) ?_
    intro t0'
    refine go_c (ps_set (i := 3) sc_shared_out.nd rfl (Or.inl rfl) pe_int) ?_
    intro t1'
    refine go_c (ps_for PassesOwn.never rfl (pi_tup (pe_ix ix_tup (pv 0) pe_int (fun _ _ => rfl))) (pg_name (i := 4) sc_shared_out.nd rfl (Or.inl rfl)) (pss_cons (ps_set (i := 5) sc_shared_out.nd rfl (Or.inl rfl) (pe_op op_add (pv 3) (pe_has h_count_words hr (by rfl) pass0 (pa_cons (pv 4) pa_nil))))
      (pss_cons (ps_expr (pe_bm PySem.F.plainAttrs_list PySem.F.slot_list_append PySem.F.type_list_append mt_append (pv 2) (pa_cons (pe_slice sl_list (pv 1) (po_some (pv 3)) (po_some (pv 5))) pa_nil)))
      (pss_one (ps_set (i := 3) sc_shared_out.nd rfl (Or.inl rfl) (pv 5)))))) ?_
    intro t2'
    refine go_1 (ps_ret (pv 2)) ?_
    intro t3'
    refine ⟨(by show 0 ≤ sizeLine; omega), fun sh hsh => ?_⟩
    have s1 := same_upd (o := .lst []) hsh
    have sU : ∀ (G : Hp) (o : HO), Same H G → Same H (upd G sh o) := fun G o h b ob e => by rw [upd_ne (ne_of_none e hsh)]; exact h b ob e
    refine ⟨_, rfl, a, _, 1, _, rfl, rfl, SqT.of (s1 _ _ ea), rfl, b, rfl, ⟨_, SqT.of (s1 _ _ eb)⟩, ?_⟩
    refine for_tup (K := K) (a := b) (xs := us) (fun i σ Hx => ∃ (rs : List Addr) (v4 v5 : Option V), σ = [some (.ref a), some (.ref l), some (.ref sh), some (.int (ahead ps i : Nat)), v4, v5] ∧ Same H Hx ∧ Hx sh = some (.lst (rs.map V.ref)) ∧ VLs Hx rs ((shareL ps xs).take i) ∧ sh ∉ rs ∧ i ≤ us.length)
      ⟨[], none, none, rfl, s1, upd_same, .nil, by simp, Nat.zero_le _⟩ (fun i σ Hx _ ⟨_, _, _, _, sx, _⟩ => SqT.of (sx _ _ eb)) ?_ ?_
    · rintro i y σ Hx hi ⟨rs, v4, v5, rfl, sx, eS, hL, hnr, hiu⟩
      obtain ⟨nn, hnn, hnv⟩ := hps.get hi
      have hil : i < us.length := (List.getElem?_eq_some_iff.mp hi).1
      have hdn := depthL_get hnn
      have hvn := validL_get hvp hnn
      have hrl : rs.length = i := by
        rw [hL.len, List.length_take, shareL_len]
        omega
      refine ⟨_, rfl, _, rfl, y, nn, some k, rfl, hnv.mono sx, hvn, by omega, fun H2 s2 => ⟨_, _, rfl, rfl, ?_⟩⟩
      have s3 := sx.trans s2
      have eS2 := s2 _ _ eS
      refine ⟨_, rfl, .inl ⟨rfl, _, SqL.of eS2⟩, _, rfl, _, rfl, (ahead ps i : Nat), rfl, _, rfl, ((ahead ps i : Nat) + (words nn : Nat) : Int), rfl, l, _, rfl, s3.seq hl, fun np hnp => ?_⟩
      have hcut : cutV xs (some (ahead ps i : Nat)) (some ((ahead ps i : Nat) + (words nn : Nat) : Int)) = (xs.drop (ahead ps i)).take (words nn) := by
        have h1 := ahead_le ps (i + 1)
        rw [ahead_succ hnn] at h1
        unfold cutV
        rw [show ((ahead ps i : Nat) + (words nn : Nat) : Int) = ((ahead ps i + words nn : Nat) : Int) by omega, HT.sIx_nat, HT.sIx_nat]
        rw [Nat.min_eq_left (by omega), Nat.min_eq_left (by omega)]
        congr 1
        omega
      rw [hcut]
      have s4 := same_upd (o := .lst ((xs.drop (ahead ps i)).take (words nn))) hnp
      have enp : (upd H2 np (.lst ((xs.drop (ahead ps i)).take (words nn)))) np = some (.lst ((xs.drop (ahead ps i)).take (words nn))) := upd_same
      generalize upd H2 np (.lst ((xs.drop (ahead ps i)).take (words nn))) = H3 at s4 enp ⊢
      have nsp : np ≠ sh := fun z => by rw [z, eS2] at hnp; cases hnp
      refine ⟨sh, _, _, rfl, rfl, s4 _ _ eS2, small1000 (by rw [List.length_map]; omega), ?_⟩
      refine ⟨_, rfl, ?_⟩
      refine ⟨rs ++ [np], _, _, by rw [ahead_succ hnn]; rfl, sU _ _ (s3.trans s4), by rw [upd_same, List.map_append]; rfl, ?_, ?_, by omega⟩
      · rw [shareL_take hnn]
        exact VLs.app (VLs.upd hnr (hL.mono (s2.trans s4))) (.cons (by rw [upd_ne nsp]; exact enp) .nil)
      · simp only [List.mem_append, List.mem_singleton, not_or]
        exact ⟨hnr, nsp.symm⟩
    · rintro σ Hx ⟨rs, v4, v5, rfl, sx, eS, hL, hnr, hiu⟩
      rw [List.take_of_length_le (by rw [shareL_len]; omega)] at hL
      exact ⟨_, rfl, q sh rs Hx hsh eS hL sx⟩
abbrev ns_knot_of : List Str := ["kind", "nests", "parts", "nest"]
theorem sc_knot_of : FnScope ns_knot_of ["kind", "nests"] (defScope s_knot_of) := ⟨rfl, rfl, rfl, by decide +kernel, rfl, by decide +kernel, by decide +kernel⟩
theorem ok_knotof (D : Def K mg "knot_of" s_knot_of ["kind", "nests"]) (T : Txt mg) (h_is_of_kind : Has P w K mg base CX0 1 "is_of_kind" ["nest", "kind"] (spOfKind K)) : Has P w K mg base CX0 2 "knot_of" ["kind", "nests"] (spKnotOf K) := by
  refine D.ok sc_knot_of (fun vs H Q E h => ?_) (fun f cdv A outer s H vs Q E hr h => ?_)
  · obtain ⟨l, k, ns, us, rfl, _⟩ := h; rfl
  · obtain ⟨l, k, ns, us, rfl, el, hns, hv, hw, h2, q⟩ := h
    have hpl := hns.len
    have hwl := wordsL_pos hns
    refine go_c (ps_set (i := 2) sc_knot_of.nd rfl (Or.inl rfl) (pe_lst pa_nil)) ?_
    intro t0'
    refine go_c (ps_for PassesOwn.never rfl (pi_list (pv 1)) (pg_name (i := 3) sc_knot_of.nd rfl (Or.inl rfl)) (pss_one (ps_if (pt_val (pe_has h_is_of_kind hr (by rfl) pass0 (pa_cons (pv 3) (pa_cons (pv 0) pa_nil)))) (pss_one (ps_expr (pe_bm PySem.F.plainAttrs_list PySem.F.slot_list_extend PySem.F.type_list_extend (r := rExtendT K) mt_extendT (pv 2) (pa_cons (pe_ix ix_tup (pv 3) pe_int (fun _ _ => rfl)) pa_nil)))) (pss_one (ps_expr (pe_bm PySem.F.plainAttrs_list PySem.F.slot_list_append PySem.F.type_list_append mt_append (pv 2) (pa_cons (pv 3) pa_nil))))))) ?_
    intro t1'
    refine go_1 (ps_ret (pe_tup (pa_cons (pv 0) (pa_cons (pe_callTy call_tuple_of (by rfl) T.b.tup boot_ty_tuple (pa_cons (pv 2) pa_nil)) pa_nil)))) ?_
    intro t2'
    refine ⟨(by show 0 ≤ sizeLine; omega), fun pp hpp => ?_⟩
    have s1 := same_upd (o := .lst []) hpp
    have sU : ∀ (G : Hp) (o : HO), Same H G → Same H (upd G pp o) := fun G o h b ob e => by rw [upd_ne (ne_of_none e hpp)]; exact h b ob e
    refine ⟨_, rfl, l, rfl, ⟨_, SqL.of (s1 _ _ el)⟩, ?_⟩
    refine for_list (K := K) (a := l) (xs := us) (fun i σ Hx => ∃ (acc : List V) (v3 : Option V), σ = [some (.str (kS k)), some (.ref l), some (.ref pp), v3] ∧ Same H Hx ∧ Hx pp = some (.lst acc) ∧ NestsAt K Hx ((ns.take i).flatMap (partsOf k)) acc ∧ i ≤ us.length)
      ⟨[], none, rfl, s1, upd_same, rfl, Nat.zero_le _⟩ (fun i σ Hx _ ⟨_, _, _, sx, _⟩ => SqL.of (sx _ _ el)) ?_ ?_
    · rintro i y σ Hx hi ⟨acc, v3, rfl, sx, eP, hA, hiu⟩
      obtain ⟨nn, hnn, hnv⟩ := hns.get hi
      have hil : i < us.length := (List.getElem?_eq_some_iff.mp hi).1
      have hvn := hv nn (List.mem_of_getElem? hnn)
      have hsplit : wordsL (ns.take (i + 1)) ≤ wordsL ns := ahead_le ns (i + 1)
      have hj := (joinL_valid (k := k) (qs := ns.take (i + 1)) fun q hq => hv q (List.mem_of_mem_take hq)).2
      have hfl : (ns.take (i + 1)).flatMap (partsOf k) = (ns.take i).flatMap (partsOf k) ++ partsOf k nn := by
        rw [List.take_succ, hnn, List.flatMap_append]
        simp
      rw [hfl, wordsL_app] at hj
      have hal := hA.len
      have haw := wordsL_pos hA
      refine ⟨_, rfl, _, rfl, y, nn, none, k, rfl, hnv.mono sx, hvn, _, rfl, ?_⟩
      cases nn with
      | bad => simp [valid] at hvn
      | word =>
        have e : y = .non := hnv
        subst e
        refine iteF ⟨_, rfl, .inl ⟨rfl, _, SqL.of eP⟩, _, rfl, pp, _, _, rfl, rfl, eP, small1000 (by omega), ?_⟩
        refine ⟨acc ++ [.non], _, rfl, sU _ _ sx, upd_same, ?_, by omega⟩
        rw [hfl]
        exact NestsAt.updL eP (NestsAt.app hA (NestsAt.one (show NestAt K Hx .word .non from rfl)))
      | knot k2 qs =>
        have hnv' := hnv
        obtain ⟨ad, bd, ws, rfl, ea, eb, hw2, hw3, hqs⟩ := hnv
        have hql := hqs.len
        have hqw := wordsL_pos hqs
        by_cases hk : k2 = k
        · subst hk
          rw [show ofK k2 (.knot k2 qs) = true from decide_eq_true rfl]
          have hpo : partsOf k2 (.knot k2 qs) = qs := by unfold partsOf; dsimp only; rw [if_pos rfl]
          rw [hpo] at hfl hj
          refine iteT ⟨_, rfl, .inl ⟨rfl, _, SqL.of eP⟩, _, rfl, ad, _, 1, _, rfl, rfl, SqT.of (sx _ _ ea), rfl, pp, bd, _, _, rfl, rfl, eP, sx _ _ eb, line_mil (by omega), ?_⟩
          refine ⟨acc ++ ws, _, rfl, sU _ _ sx, upd_same, ?_, by omega⟩
          rw [hfl]
          exact NestsAt.updL eP (NestsAt.app hA (hqs.mono sx))
        · rw [show ofK k (.knot k2 qs) = false from decide_eq_false hk]
          have hpo : partsOf k (.knot k2 qs) = [.knot k2 qs] := by unfold partsOf; dsimp only; rw [if_neg hk]
          rw [hpo] at hfl hj
          refine iteF ⟨_, rfl, .inl ⟨rfl, _, SqL.of eP⟩, _, rfl, pp, _, _, rfl, rfl, eP, small1000 (by omega), ?_⟩
          refine ⟨acc ++ [.ref ad], _, rfl, sU _ _ sx, upd_same, ?_, by omega⟩
          rw [hfl]
          exact NestsAt.updL eP (NestsAt.app hA (NestsAt.one (hnv'.mono sx)))
    · rintro σ Hx ⟨acc, v3, rfl, sx, eP, hA, hiu⟩
      rw [← hpl, List.take_length] at hA
      have hj := (joinL_valid (k := k) hv).2
      have hal := hA.len
      have haw := wordsL_pos hA
      have h2' : 2 ≤ (ns.flatMap (partsOf k)).length := by
        have ge : ∀ (qs : List Nest), (∀ q ∈ qs, 1 ≤ words q ∧ valid none q = true) → qs.length ≤ (qs.flatMap (partsOf k)).length := fun qs => by
          induction qs with
          | nil => intro _; simp
          | cons q qs ih =>
            intro h
            have h1 := h q List.mem_cons_self
            have := ih fun x hx => h x (List.mem_cons_of_mem _ hx)
            have hp := (parts_valid (k := k) h1.2).2
            rw [List.flatMap_cons, List.length_append, List.length_cons]
            have : 1 ≤ (partsOf k q).length := by
              cases hz : partsOf k q with
              | nil => rw [hz, wordsL] at hp; omega
              | cons _ _ => simp
            omega
        have := ge ns fun q hq => by
          obtain ⟨i, hi, rfl⟩ := List.getElem_of_mem hq
          have hiu : i < us.length := by omega
          obtain ⟨m, hm, hmv⟩ := hns.get (i := i) (v := us[i]) (List.getElem?_eq_getElem hiu)
          rw [List.getElem?_eq_getElem hi] at hm
          cases hm
          exact ⟨words_pos hmv, hv _ hq⟩
        omega
      refine ⟨_, rfl, _, rfl, pp, _, rfl, .inl ⟨SqL.of eP, fun bp hbp => ⟨(by show 2 ≤ sizeLine; decide), fun rp hrp => ?_⟩⟩⟩
      refine q (.ref rp) _ ⟨rp, bp, acc, rfl, upd_same, same_upd hrp _ _ upd_same, by omega, by omega, ?_⟩ (sx.trans ((same_upd hbp).trans (same_upd hrp)))
      exact (hA.mono (same_upd hbp)).mono (same_upd hrp)
theorem has_mbw {C : Addr} (D0 : Def K mg "is_whole" s_is_whole ["thing"]) (D1 : Def K mg "are_different_below" s_are_different_below ["things", "bound"]) (D3 : Def K mg "must_be_words" s_must_be_words ["words", "many"]) (T : Txt mg) (mC : mg "NoWords" = some (.ref C)) (xC : PySem.W.excIn K C bmVE "ValueError.__new__" = true) :
    Has P w K mg base (CXV P w) 3 "must_be_words" ["words", "many"] (spMbw K C) := by
  obtain ⟨f0, fd0, F0, k0, m0, b0⟩ := D0.ex
  obtain ⟨f1, fd1, F1, k1, m1, b1⟩ := D1.ex
  obtain ⟨f3, fd3, F3, k3, m3, b3⟩ := D3.ex
  exact ⟨f3, fd3, ok_mbw F3 T (ok_diff F1 (ok_whole F0 T) k0 m0 b0) k1 m1 b1 mC xC, k3, m3, b3⟩
theorem has_make {C : Addr} {mw : Tok} (D0 : Def K mg "is_whole" s_is_whole ["thing"]) (D1 : Def K mg "are_different_below" s_are_different_below ["things", "bound"]) (D3 : Def K mg "make_order" s_make_order ["numbers"]) (T : Txt mg) (mC : mg "NoOrder" = some (.ref C)) (xC : PySem.W.excIn K C bmVE "ValueError.__new__" = true) (mM : mg "MOST_WORDS" = some (.int 60 mw)) :
    Has P w K mg base (CXV P w) 3 "make_order" ["numbers"] (spMake K C) := by
  obtain ⟨f0, fd0, F0, k0, m0, b0⟩ := D0.ex
  obtain ⟨f1, fd1, F1, k1, m1, b1⟩ := D1.ex
  obtain ⟨f3, fd3, F3, k3, m3, b3⟩ := D3.ex
  exact ⟨f3, fd3, ok_make F3 T (ok_diff F1 (ok_whole F0 T) k0 m0 b0) k1 m1 b1 mC xC mM, k3, m3, b3⟩
theorem has_put {C : Addr} {mw : Tok} (D0 : Def K mg "put_together" s_put_together ["order", "orders"]) (D1 : Def K mg "first_numbers" s_first_numbers ["orders"]) (D3 : Def K mg "must_fit" s_must_fit ["sizes", "many"]) (T : Txt mg) (mC : mg "NoOrder" = some (.ref C)) (xC : PySem.W.excIn K C bmVE "ValueError.__new__" = true) (mM : mg "MOST_WORDS" = some (.int 60 mw)) :
    Has P w K mg base (CXV P w) 2 "put_together" ["order", "orders"] (spPut K C) := by
  obtain ⟨f0, fd0, F0, k0, m0, b0⟩ := D0.ex
  obtain ⟨f1, fd1, F1, k1, m1, b1⟩ := D1.ex
  obtain ⟨f3, fd3, F3, k3, m3, b3⟩ := D3.ex
  exact ⟨f0, fd0, ok_put F0 T (ok_firsts F1 T) k1 m1 b1 (ok_fit F3 T mC xC mM) k3 m3 b3, k0, m0, b0⟩
abbrev ns_cuts : List Str := ["order", "rising", "falling", "least", "greatest", "place"]
theorem sc_cuts : FnScope ns_cuts ["order"] (defScope s_cuts) := ⟨rfl, rfl, rfl, by decide +kernel, rfl, by decide +kernel, by decide +kernel⟩
theorem ok_cuts (D : Def K mg "cuts" s_cuts ["order"]) (T : Txt mg) : Has P w K mg base CX0 1 "cuts" ["order"] (spCuts K) := by
  refine D.ok sc_cuts (fun vs H Q E h => ?_) (fun f cdv A outer s H vs Q E hr h => ?_)
  · obtain ⟨o, ord, rfl, _⟩ := h; rfl
  · obtain ⟨o, ord, rfl, hT, hO, h1, hz, q⟩ := h
    refine go_c (ps_set (i := 1) sc_cuts.nd rfl (Or.inl rfl) (pe_lst pa_nil)) ?_
    intro t0'
    refine go_c (ps_set (i := 2) sc_cuts.nd rfl (Or.inl rfl) (pe_lst pa_nil)) ?_
    intro t1'
    refine go_c (ps_set (i := 3) sc_cuts.nd rfl (Or.inl rfl) (pe_callB call_len_seq (by rfl) T.b.len PySem.boot_len (pa_cons (pv 0) pa_nil))) ?_
    intro t2'
    refine go_c (ps_set (i := 4) sc_cuts.nd rfl (Or.inl rfl) (pe_un un_neg pe_int)) ?_
    intro t3'
    refine go_c (ps_for PassesOwn.never rfl (pi_range2 rfl T.b.rng (pa_cons pe_int (pa_cons (pe_callB call_len_seq (by rfl) T.b.len PySem.boot_len (pa_cons (pv 0) pa_nil)) pa_nil))) (pg_name (i := 5) sc_cuts.nd rfl (Or.inl rfl)) (pss_cons (ps_set (i := 3) sc_cuts.nd rfl (Or.inl rfl) (pe_callB (call_min2 rfl) (by rfl) T.min boot_min (pa_cons (pv 3) (pa_cons (pe_ix ix_tup (pv 0) (pe_op op_sub (pv 5) pe_int) (fun _ _ => rfl)) pa_nil))))
      (pss_cons (ps_set (i := 4) sc_cuts.nd rfl (Or.inl rfl) (pe_callB (call_max2 rfl) (by rfl) T.max boot_max (pa_cons (pv 4) (pa_cons (pe_ix ix_tup (pv 0) (pe_op op_sub (pv 5) pe_int) (fun _ _ => rfl)) pa_nil))))
      (pss_cons (ps_if (pt_cmpR op_eq (pv 4) (pe_op op_sub (pv 5) pe_int) (nomark _)) (pss_one (ps_expr (pe_bm PySem.F.plainAttrs_list PySem.F.slot_list_append PySem.F.type_list_append mt_append (pv 1) (pa_cons (pv 5) pa_nil)))) pss_nil)
      (pss_one (ps_if (pt_cmpR op_eq (pv 3) (pe_op op_sub (pe_callB call_len_seq (by rfl) T.b.len PySem.boot_len (pa_cons (pv 0) pa_nil)) (pv 5)) (nomark _)) (pss_one (ps_expr (pe_bm PySem.F.plainAttrs_list PySem.F.slot_list_append PySem.F.type_list_append mt_append (pv 2) (pa_cons (pv 5) pa_nil)))) pss_nil)))))) ?_
    intro t4'
    refine go_c (ps_if (pt_truth (pv 1) (fun _ => rfl)) (pss_one (ps_ret (pe_tup (pa_cons pe_str (pa_cons (pe_callTy call_tuple_of (by rfl) T.b.tup boot_ty_tuple (pa_cons (pv 1) pa_nil)) pa_nil))))) pss_nil) ?_
    intro t5'
    refine go_c (ps_if (pt_truth (pv 2) (fun _ => rfl)) (pss_one (ps_ret (pe_tup (pa_cons pe_str (pa_cons (pe_callTy call_tuple_of (by rfl) T.b.tup boot_ty_tuple (pa_cons (pv 2) pa_nil)) pa_nil))))) pss_nil) ?_
    intro t6'
    refine go_1 (ps_ret (pe_tup (pa_cons pe_str (pa_cons (pe_tup pa_nil) pa_nil)))) ?_
    intro t7'
    have hln : (ord.map V.int).length = ord.length := List.length_map ..
    refine ⟨(by show 0 ≤ sizeLine; omega), fun rp hrp => ⟨(by show 0 ≤ sizeLine; omega), fun fp hfp => ?_⟩⟩
    have nrf : rp ≠ fp := ne_of_none upd_same hfp
    have hfp0 : H fp = none := (same_upd hrp).free hfp
    have s1 : Same H (upd (upd H rp (.lst [])) fp (.lst [])) := (same_upd hrp).trans (same_upd hfp)
    have eR1 : (upd (upd H rp (.lst [])) fp (.lst [])) rp = some (.lst []) := by rw [upd_ne nrf]; exact upd_same
    have eF1 : (upd (upd H rp (.lst [])) fp (.lst [])) fp = some (.lst []) := upd_same
    generalize upd (upd H rp (.lst [])) fp (.lst []) = H1 at s1 eR1 eF1 ⊢
    refine ⟨_, rfl, o, _, rfl, .inr (s1.sqt hT), ?_⟩
    rw [hln]
    refine ⟨_, rfl, ?_⟩
    refine ⟨_, rfl, o, _, rfl, .inr (s1.sqt hT), 1, (ord.length : Int), (by rw [hln]), ⟨by decide, by decide, by omega, by omega⟩, ?_⟩
    rw [show ((ord.length : Int) - 1).toNat = ord.length - 1 by omega]
    refine for_range (n := ord.length - 1) (lo := 1) (fun i σ Hx => ∃ v5 : Option V, σ = [some (.ref o), some (.ref rp), some (.ref fp), some (.int (mnL ord.length (ord.take i))), some (.int (mxL (ord.take i))), v5] ∧ Same H Hx ∧ Hx rp = some (.lst (natV (places ord (upB ord) i))) ∧ Hx fp = some (.lst (natV (places ord (dnB ord) i))))
      ⟨none, rfl, s1, eR1, eF1⟩ ?_ ?_
    · rintro i σ Hx hi ⟨v5, rfl, sx, eR, eF⟩
      have hil : i < ord.length := by omega
      have hg : ord[i]? = some ord[i] := List.getElem?_eq_getElem hil
      have hat : atI (ord.map V.int) (1 + (i : Int) - 1) = some (V.int ord[i]) := by
        rw [show 1 + (i : Int) - 1 = (i : Int) by omega]
        exact at_ints hg
      have htk : ord.take (i + 1) = ord.take i ++ [ord[i]] := by rw [List.take_succ, hg]; rfl
      refine ⟨_, rfl, _, rfl, _, rfl, _, _, rfl, rfl, o, _, _, _, rfl, rfl, sx.sqt hT, hat, _, _, rfl, ?_⟩
      refine ⟨_, rfl, _, rfl, _, rfl, _, _, rfl, rfl, o, _, _, _, rfl, rfl, sx.sqt hT, hat, _, _, rfl, ?_⟩
      have emx : (if ord[i] > mxL (ord.take i) then ord[i] else mxL (ord.take i)) = mxL (ord.take (i + 1)) := by rw [htk, mxL_snoc]; rfl
      have emn : (if ord[i] < mnL ord.length (ord.take i) then ord[i] else mnL ord.length (ord.take i)) = mnL ord.length (ord.take (i + 1)) := by rw [htk, mnL_snoc]; rfl
      refine gname_go ?_
      dsimp only [List.set]
      rw [emx, emn]
      refine seq_if (fun σ' Hy => σ' = [some (.ref o), some (.ref rp), some (.ref fp), some (.int (mnL ord.length (ord.take (i + 1)))), some (.int (mxL (ord.take (i + 1)))), some (.int (1 + (i : Int)))] ∧ Same H Hy ∧ Hy rp = some (.lst (natV (places ord (upB ord) (i + 1)))) ∧ Hy fp = some (.lst (natV (places ord (dnB ord) i)))) ?_ fun hrest => ?_
      · rintro σ' Hy ⟨rfl, sy, eR', eF'⟩
        refine ⟨_, rfl, _, rfl, o, _, rfl, .inr (sy.sqt hT), _, rfl, _, _, rfl, rfl, rfl, _, rfl, ?_⟩
        rw [hln]
        have hd : decide (V.int (mnL ord.length (ord.take (i + 1))) = V.int ((ord.length : Int) - (1 + (i : Int)))) = dnB ord (i + 1) := by
          rw [← mn_dn hO (by omega) (by omega), show ((i + 1 : Nat) : Int) = 1 + (i : Int) by omega]
          by_cases e : mnL ord.length (ord.take (i + 1)) = (ord.length : Int) - (1 + (i : Int))
          · rw [e, decide_eq_true rfl, decide_eq_true rfl]
          · rw [decide_eq_false e, decide_eq_false (fun z => e (V.int.inj z))]
        rw [hd]
        cases hb : dnB ord (i + 1) with
        | true =>
          refine iteT ⟨_, rfl, .inl ⟨rfl, _, SqL.of eF'⟩, _, rfl, fp, _, _, rfl, rfl, eF', ?_, ?_⟩
          · have := places_len ord (dnB ord) i
            unfold natV; rw [List.length_map]; exact small1000 (by omega)
          · refine ⟨_, rfl, fun b ob e => by rw [upd_ne (ne_of_none e hfp0)]; exact sy b ob e, by rw [upd_ne nrf]; exact eR', ?_⟩
            rw [upd_same, places_succ, hb, if_pos rfl]
            unfold natV
            rw [List.map_append]
            show _ = some (HO.lst (_ ++ [V.int ((i + 1 : Nat) : Int)]))
            rw [show ((i + 1 : Nat) : Int) = 1 + (i : Int) by omega]
        | false =>
          refine iteF ⟨_, rfl, sy, eR', ?_⟩
          rw [places_succ, hb, if_neg Bool.false_ne_true, List.append_nil]
          exact eF'
      · refine ⟨_, rfl, _, rfl, _, _, rfl, rfl, rfl, _, rfl, ?_⟩
        have hd : decide (V.int (mxL (ord.take (i + 1))) = V.int (1 + (i : Int) - 1)) = upB ord (i + 1) := by
          rw [← mx_up hO (by omega) (by omega), show ((i + 1 : Nat) : Int) - 1 = 1 + (i : Int) - 1 by omega]
          by_cases e : mxL (ord.take (i + 1)) = 1 + (i : Int) - 1
          · rw [e, decide_eq_true rfl, decide_eq_true rfl]
          · rw [decide_eq_false e, decide_eq_false (fun z => e (V.int.inj z))]
        rw [hd]
        cases hb : upB ord (i + 1) with
        | true =>
          refine iteT ⟨_, rfl, .inl ⟨rfl, _, SqL.of eR⟩, _, rfl, rp, _, _, rfl, rfl, eR, ?_, hrest _ _ ?_⟩
          · have := places_len ord (upB ord) i
            unfold natV; rw [List.length_map]; exact small1000 (by omega)
          · refine ⟨rfl, fun b ob e => by rw [upd_ne (ne_of_none e hrp)]; exact sx b ob e, ?_, by rw [upd_ne nrf.symm]; exact eF⟩
            rw [upd_same, places_succ, hb, if_pos rfl]
            unfold natV
            rw [List.map_append]
            show _ = some (HO.lst (_ ++ [V.int ((i + 1 : Nat) : Int)]))
            rw [show ((i + 1 : Nat) : Int) = 1 + (i : Int) by omega]
        | false =>
          refine iteF (hrest _ _ ⟨rfl, sx, ?_, eF⟩)
          rw [places_succ, hb, if_neg Bool.false_ne_true, List.append_nil]
          exact eR
    · rintro σ Hx ⟨v5, rfl, sx, eR, eF⟩
      have eR : Hx rp = some (.lst (natV (risF ord))) := eR
      have eF : Hx fp = some (.lst (natV (falF ord))) := eF
      refine ⟨_, rfl, !(natV (risF ord)).isEmpty, .inl ⟨_, SqL.of eR, rfl⟩, ?_⟩
      unfold cutF at q
      by_cases hR : risF ord = []
      · rw [if_pos hR] at q
        rw [hR]
        refine iteF ⟨_, rfl, !(natV (falF ord)).isEmpty, .inl ⟨_, SqL.of eF, rfl⟩, ?_⟩
        by_cases hF : falF ord = []
        · rw [if_pos hF] at q
          rw [hF]
          refine iteF ⟨(by show 0 ≤ sizeLine; omega), fun p hp => ⟨(by show 2 ≤ sizeLine; decide), fun t ht => ?_⟩⟩
          exact q t p _ (sx.free ((same_upd hp).free ht)) (sx.free hp) ⟨upd_same, same_upd ht _ _ upd_same⟩ (sx.trans ((same_upd hp).trans (same_upd ht)))
        · rw [if_neg hF] at q
          have : (!(natV (falF ord)).isEmpty) = true := by
            cases hh : falF ord with
            | nil => exact absurd hh hF
            | cons _ _ => rfl
          rw [this]
          refine iteT ⟨_, rfl, fp, _, rfl, .inl ⟨SqL.of eF, fun p hp => ⟨(by show 2 ≤ sizeLine; decide), fun t ht => ?_⟩⟩⟩
          exact q t p _ (sx.free ((same_upd hp).free ht)) (sx.free hp) ⟨upd_same, same_upd ht _ _ upd_same⟩ (sx.trans ((same_upd hp).trans (same_upd ht)))
      · rw [if_neg hR] at q
        have : (!(natV (risF ord)).isEmpty) = true := by
          cases hh : risF ord with
          | nil => exact absurd hh hR
          | cons _ _ => rfl
        rw [this]
        refine iteT ⟨_, rfl, rp, _, rfl, .inl ⟨SqL.of eR, fun p hp => ⟨(by show 2 ≤ sizeLine; decide), fun t ht => ?_⟩⟩⟩
        exact q t p _ (sx.free ((same_upd hp).free ht)) (sx.free hp) ⟨upd_same, same_upd ht _ _ upd_same⟩ (sx.trans ((same_upd hp).trans (same_upd ht)))
theorem has_left {C : Addr} (D0 : Def K mg "is_whole" s_is_whole ["thing"]) (D1 : Def K mg "are_different_below" s_are_different_below ["things", "bound"]) (D2 : Def K mg "left_of" s_left_of ["order", "words"]) (D3 : Def K mg "must_be_words" s_must_be_words ["words", "many"]) (T : Txt mg) (mC : mg "NoWords" = some (.ref C)) (xC : PySem.W.excIn K C bmVE "ValueError.__new__" = true) :
    Has P w K mg base (CXV P w) 4 "left_of" ["order", "words"] (spLeft K C) := by
  obtain ⟨f0, fd0, F0, k0, m0, b0⟩ := D0.ex
  obtain ⟨f1, fd1, F1, k1, m1, b1⟩ := D1.ex
  obtain ⟨f2, fd2, F2, k2, m2, b2⟩ := D2.ex
  obtain ⟨f3, fd3, F3, k3, m3, b3⟩ := D3.ex
  exact ⟨f2, fd2, ok_left F2 T (ok_mbw F3 T (ok_diff F1 (ok_whole F0 T) k0 m0 b0) k1 m1 b1 mC xC) k3 m3 b3, k2, m2, b2⟩
abbrev ns_stretches : List Str := ["order", "places", "firsts", "behinds"]
theorem sc_stretches : FnScope ns_stretches ["order", "places"] (defScope s_stretches) := ⟨rfl, rfl, rfl, by decide +kernel, rfl, by decide +kernel, by decide +kernel⟩
def cp_stretches_0 (s : Stmt) : Scope := match (defBody s).getD 2 (.Pass ⟨0, 0, 0, 0⟩) with
  | .Return (some (.ListComp _ _ sc _)) _ => sc
  | _ => defScope s
theorem cs_stretches_0 : CScope2 (defScope s_stretches) (cp_stretches_0 s_stretches) "first" "behind" ["first", "behind", "order"] ns_stretches [0] := cs2_of (by decide +kernel)
theorem ok_stretches (D : Def K mg "stretches" s_stretches ["order", "places"]) (T : Txt mg) : Has P w K mg base CX0 1 "stretches" ["order", "places"] (spStretch K) := by
  refine D.ok sc_stretches (fun vs H Q E h => ?_) (fun f cdv A outer s H vs Q E hr h => ?_)
  · obtain ⟨o, p, ord, ps, rfl, _⟩ := h; rfl
  · obtain ⟨o, p, ord, ps, rfl, hT, hP, hA, hne, h1, hz, q⟩ := h
    refine go_c (ps_set (i := 2) sc_stretches.nd rfl (Or.inl rfl) (pe_op op_catA (pe_tup (pa_cons pe_int pa_nil)) (pv 1))) ?_
    intro t0'
    refine go_c (ps_set (i := 3) sc_stretches.nd rfl (Or.inl rfl) (pe_op op_catA (pv 1) (pe_tup (pa_cons (pe_callB call_len_seq (by rfl) T.b.len PySem.boot_len (pa_cons (pv 0) pa_nil)) pa_nil)))) ?_
    intro t1'
    refine go_1 (ps_ret (pe_comp2 rfl cs_stretches_0 rfl (pi_zipTT rfl T.zip (pa_cons (pv 2) (pa_cons (pv 3) pa_nil))) (fun cl C fp s H => show PG _ _ (gTup K 2 (gCons (gName 0) (gCons (gName 1) gNil))) from pg_tup rfl (pgs_cons (pg_name (i := 0) cs_stretches_0.nd rfl (Or.inl rfl) (Or.inr cs_stretches_0.own)) (pgs_cons (pg_name (i := 1) cs_stretches_0.nd rfl (Or.inl rfl) (Or.inr cs_stretches_0.own2)) pgs_nil))) (fun cl C fp s H => pts_nil) (fun cl C fp s H => (pe_callTy (r := rLstOf K) call_list_of (by rfl) T.b.lst boot_ty_list (pa_cons (pe_slice (r := rSlT K) sl_tup (pv 2) (po_some (pv 0)) (po_some (pv 1))) pa_nil))))) ?_
    intro t2'
    have hln : (ord.map V.int).length = ord.length := List.length_map ..
    have hnl : (natV ps).length = ps.length := List.length_map ..
    have hpl : ps.length ≤ ord.length := by
      have : ps.length ≤ (List.range ord.length).length := by
        refine (List.Nodup.sublist (l₁ := ps) (l₂ := ps) (List.Sublist.refl _) (hA.1.imp fun h => Nat.ne_of_lt h)).length_le_of_subset ?_
        intro x hx
        exact List.mem_range.mpr (hA.2 x hx).2
      simpa using this
    have hne2 : natV ps ≠ [] := fun z => hne (List.map_eq_nil_iff.mp z)
    refine ⟨(by show 1 ≤ sizeLine; decide), fun t1 ht1 => ?_⟩
    have s1 := same_upd (o := .tup [V.int 0]) ht1
    refine ⟨_, rfl, t1, p, [V.int 0], natV ps, rfl, rfl, SqT.of upd_same, SqT.of (s1 _ _ hP), line1000 (by show 1 + (natV ps).length ≤ 1000; omega), .inr (.inr ⟨(fun z => nomatch z), hne2, fun fa hfa => ?_⟩)⟩
    have s2 := s1.trans (same_upd (o := .tup ([V.int 0] ++ natV ps)) hfa)
    have e2 : (upd (upd H t1 (.tup [V.int 0])) fa (.tup ([V.int 0] ++ natV ps))) fa = some (.tup (natV (firstsF ps))) := upd_same
    generalize upd (upd H t1 (.tup [V.int 0])) fa (.tup ([V.int 0] ++ natV ps)) = H2 at s2 e2 ⊢
    refine ⟨_, rfl, _, rfl, o, _, rfl, .inr (s2.sqt hT), (by show 1 ≤ sizeLine; decide), fun t2 ht2 => ?_⟩
    have s3 := s2.trans (same_upd (o := .tup [V.int ((ord.map V.int).length : Int)]) ht2)
    have e3 := same_upd (o := .tup [V.int ((ord.map V.int).length : Int)]) ht2 _ _ e2
    refine ⟨p, t2, natV ps, [V.int ((ord.map V.int).length : Int)], rfl, rfl, SqT.of (s3 _ _ hP), SqT.of upd_same, line1000 (by show (natV ps).length + 1 ≤ 1000; omega), .inr (.inr ⟨hne2, (fun z => nomatch z), fun ba hba => ?_⟩)⟩
    have ebh : natV ps ++ [V.int ((ord.map V.int).length : Int)] = natV (behindsF ord.length ps) := by
      unfold natV behindsF
      rw [List.map_append, hln]
      rfl
    rw [ebh]
    have s4 := s3.trans (same_upd (o := .tup (natV (behindsF ord.length ps))) hba)
    have e4 := same_upd (o := .tup (natV (behindsF ord.length ps))) hba _ _ e3
    have e5 : (upd (upd H2 t2 (.tup [V.int ((ord.map V.int).length : Int)])) ba (.tup (natV (behindsF ord.length ps)))) ba = some (.tup (natV (behindsF ord.length ps))) := upd_same
    generalize upd (upd H2 t2 (.tup [V.int ((ord.map V.int).length : Int)])) ba (.tup (natV (behindsF ord.length ps))) = G at s4 e4 e5 ⊢
    refine ⟨_, rfl, _, rfl, fa, ba, _, _, rfl, e4, e5, fun D hD => ?_⟩
    have gN : ∀ {l : List Nat} {i : Nat} {x : V}, (natV l)[i]? = some x → ∃ n, l[i]? = some n ∧ x = V.int (n : Int) := fun {l i x} h => by
      unfold natV at h
      rw [List.getElem?_map] at h
      cases hl : l[i]? with
      | none => rw [hl] at h; cases h
      | some n => rw [hl] at h; exact ⟨n, rfl, (Option.some.inj h).symm⟩
    have lenF : (natV (firstsF ps)).length = ps.length + 1 := by unfold natV firstsF; simp
    have lenB : (natV (behindsF ord.length ps)).length = ps.length + 1 := by unfold natV behindsF; simp
    refine comp_pairs (K := K) (n := ps.length + 1) (fun i acc H' => H' D = some (.lst acc) ∧ acc.length = i ∧ Same G H' ∧ ∃ qs : List Addr, acc = qs.map V.ref ∧ LstsAt H' qs ((stretchF ord ps).take i) ∧ (∀ x ∈ qs, G x = none) ∧ D ∉ qs) ⟨upd_same, rfl, same_upd hD, [], rfl, .nil, (fun _ h => nomatch h), (fun h => nomatch h)⟩ (fun i acc H' h => ⟨h.1, h.2.1⟩) (line1000 (by omega)) ?_ ?_ ?_
    · rintro i acc H' hi ⟨_, _, sx, _⟩
      exact ⟨_, _, (natV (firstsF ps))[i]'(by omega), (natV (behindsF ord.length ps))[i]'(by omega), sx _ _ e4, sx _ _ e5, List.getElem?_eq_getElem _, List.getElem?_eq_getElem _⟩
    · rintro acc H' ⟨e, ha, sx, qs, rfl, hL, hq, hDq⟩
      refine ⟨⟨_, _, sx _ _ e4, sx _ _ e5, lenF⟩, ?_⟩
      rw [List.take_of_length_le (by rw [stretch_len]; exact Nat.le_refl _)] at hL
      exact q D qs H' (s4.free hD) (fun x hx => s4.free (hq x hx)) e hL (s4.trans sx)
    · rintro i acc H' y H5 hi ⟨e, ha, sx, qs, rfl, hL, hq, hDq⟩ ⟨pp, x, z, hpp, rfl, hx, hz', rfl⟩
      obtain ⟨a, haf, rfl⟩ := gN (hx _ (sx _ _ e4))
      obtain ⟨c, hcf, rfl⟩ := gN (hz' _ (sx _ _ e5))
      have hac := asc_at hA h1 haf hcf
      have hnw := not_whole hA hne haf hcf
      have sp := sx.trans (same_upd (o := .tup [V.int (a : Int), V.int (c : Int)]) hpp)
      have eD := same_upd (o := .tup [V.int (a : Int), V.int (c : Int)]) hpp _ _ e
      have hL1 := hL.mono (same_upd (o := .tup [V.int (a : Int), V.int (c : Int)]) hpp)
      refine ⟨pp, _, _, rfl, SqT.of upd_same, fun R hR => ?_⟩
      generalize upd H' pp (.tup [V.int (a : Int), V.int (c : Int)]) = H1 at sp eD hL1 ⊢
      refine ⟨_, rfl, _, rfl, _, rfl, _, rfl, _, rfl, o, _, rfl, (s4.trans sp).sqt hT, ?_, fun t3 ht3 => ?_⟩
      · rw [HT.sIx_nat, HT.sIx_nat, hln]
        rintro ⟨z1, z2⟩
        exact hnw ⟨by omega, by omega⟩
      rw [cutN_mid _ (Nat.le_of_lt hac.1) (by rw [hln]; exact hac.2), ← List.map_drop, ← List.map_take]
      have s6 := same_upd (o := .tup (((ord.drop a).take (c - a)).map V.int)) ht3
      refine ⟨t3, _, rfl, .inr (SqT.of upd_same), fun lp hlp => ?_⟩
      have s7 := s6.trans (same_upd (o := .lst (((ord.drop a).take (c - a)).map V.int)) hlp)
      have e7 : (upd (upd H1 t3 (.tup (((ord.drop a).take (c - a)).map V.int))) lp (.lst (((ord.drop a).take (c - a)).map V.int))) lp = some (.lst (((ord.drop a).take (c - a)).map V.int)) := upd_same
      generalize upd (upd H1 t3 (.tup (((ord.drop a).take (c - a)).map V.int))) lp (.lst (((ord.drop a).take (c - a)).map V.int)) = H7 at s7 e7 ⊢
      have hlp1 : H1 lp = none := s6.free hlp
      have nDl : D ≠ lp := ne_of_none eD hlp1
      refine hR _ _ (s7 _ _ eD) ⟨upd_same, by simp [ha], fun b ob eb => ?_, qs ++ [lp], by simp, ?_, fun x hx => ?_, ?_⟩
      · rw [upd_ne (ne_of_none eb hD)]
        exact s7 _ _ (sp _ _ eb)
      · have hst : (stretchF ord ps)[i]? = some ((ord.drop a).take (c - a)) := by
          unfold stretchF
          rw [List.getElem?_map, show ((firstsF ps).zip (behindsF ord.length ps))[i]? = some (a, c) from List.getElem?_zip_eq_some.mpr ⟨haf, hcf⟩]
          rfl
        rw [List.take_succ, hst]
        refine LstsAt.upd (fun z => ?_) (LstsAt.app (hL1.mono s7) (.cons e7 .nil))
        rcases List.mem_append.mp z with z | z
        · exact hDq z
        · exact nDl (List.mem_singleton.mp z)
      · rcases List.mem_append.mp hx with hx | hx
        · exact hq x hx
        · rw [List.mem_singleton.mp hx]
          exact sp.free hlp1
      · intro z
        rcases List.mem_append.mp z with z | z
        · exact hDq z
        · exact nDl (List.mem_singleton.mp z)
abbrev ns_nest_of : List Str := ["order", "found", "parts", "stretch", "part"]
theorem sc_nest_of : FnScope ns_nest_of ["order"] (defScope s_nest_of) := ⟨rfl, rfl, rfl, by decide +kernel, rfl, by decide +kernel, by decide +kernel⟩
theorem ok_nestof {C : Addr} {mb : Tok} (D : Def K mg "nest_of" s_nest_of ["order"]) (T : Txt mg) (mB : mg "BARRED" = some (.str "barred" mb)) (h_cuts : Has P w K mg base CX0 1 "cuts" ["order"] (spCuts K)) (h_stretches : Has P w K mg base CX0 1 "stretches" ["order", "places"] (spStretch K)) (h_left_of : Has P w K mg base (CXV P w) 4 "left_of" ["order", "words"] (spLeft K C)) :
    ∀ d, Has P w K mg base CX0 (d + 4) "nest_of" ["order"] (spNestOf K d)
  | 0 => D.rec0 fun vs H Q E ⟨_, _, _, _, _, h1, _, h2, _⟩ => by omega
  | d + 1 => by
    have h_nest_of := ok_nestof D T mB h_cuts h_stretches h_left_of d
    refine D.ok sc_nest_of (fun vs H Q E h => ?_) (fun f cdv A outer s H vs Q E hr h => ?_)
    · obtain ⟨o, ord, rfl, _⟩ := h; rfl
    · obtain ⟨o, ord, rfl, hT, hO, h1, hz, hd, q⟩ := h
      refine go_c (ps_if (pt_cmpR op_eq (pe_callB call_len_seq (by rfl) T.b.len PySem.boot_len (pa_cons (pv 0) pa_nil)) pe_int (nomark _)) (pss_one (ps_ret pe_non)) pss_nil) ?_
      intro t0'
      refine go_c (ps_set (i := 1) sc_nest_of.nd rfl (Or.inl rfl) (pe_has h_cuts (hr.mono (by first | decide | omega)) (by rfl) pass0 (pa_cons (pv 0) pa_nil))) ?_
      intro t1'
      refine go_c (ps_if (pt_not (pt_truth (pe_ix ix_tup (pv 1) pe_int (fun _ _ => rfl)) (fun _ => rfl))) (pss_one (ps_ret (pe_glob (v := .str barS) (by rfl) mB ⟨_, rfl⟩))) pss_nil) ?_
      intro t2'
      refine go_c (ps_set (i := 2) sc_nest_of.nd rfl (Or.inl rfl) (pe_lst pa_nil)) ?_
      intro t3'
      refine go_c (ps_for PassesOwn.never rfl (pi_list (pe_has h_stretches (hr.mono (by first | decide | omega)) (by rfl) pass0 (pa_cons (pv 0) (pa_cons (pe_ix ix_tup (pv 1) pe_int (fun _ _ => rfl)) pa_nil)))) (pg_name (i := 3) sc_nest_of.nd rfl (Or.inl rfl)) (pss_cons (ps_set (i := 4) sc_nest_of.nd rfl (Or.inl rfl) (pe_has h_nest_of hr (by rfl) pass0 (pa_cons (pe_has h_left_of (hr.mono (by first | decide | omega)) (by rfl) pass0V (pa_cons (pv 0) (pa_cons (pv 3) pa_nil))) pa_nil)))
      (pss_cons (ps_if (pt_cmpR (op_eqB hr.units0) (pv 4) (pe_glob (v := .str barS) (by rfl) mB ⟨_, rfl⟩) (nomark _)) (pss_one (ps_ret (pe_glob (v := .str barS) (by rfl) mB ⟨_, rfl⟩))) pss_nil)
      (pss_one (ps_expr (pe_bm PySem.F.plainAttrs_list PySem.F.slot_list_append PySem.F.type_list_append mt_append (pv 2) (pa_cons (pv 4) pa_nil))))))) ?_
      intro t4'
      refine go_c (ps_if (pt_cmpR op_eq (pe_ix ix_tup (pv 1) pe_int (fun _ _ => rfl)) pe_str (nomark _)) (pss_one (ps_expr (pe_bm0 PySem.F.plainAttrs_list PySem.F.slot_list_reverse PySem.F.type_list_reverse mt_reverse (pv 2)))) pss_nil) ?_
      intro t5'
      refine go_1 (ps_ret (pe_tup (pa_cons (pe_ix ix_tup (pv 1) pe_int (fun _ _ => rfl)) (pa_cons (pe_callTy call_tuple_of (by rfl) T.b.tup boot_ty_tuple (pa_cons (pv 2) pa_nil)) pa_nil)))) ?_
      intro t6'
      have hln : (ord.map V.int).length = ord.length := List.length_map ..
      refine ⟨_, rfl, o, _, rfl, .inr hT, rfl, _, rfl, ?_⟩
      rw [hln]
      by_cases hl : ord.length = 1
      · rw [decide_eq_true (show V.int (ord.length : Int) = V.int 1 by rw [hl]; rfl)]
        refine iteT (q .non H ?_ (Same.refl _))
        rw [nestF, if_pos hl]
        rfl
      · rw [decide_eq_false (fun z => hl (by have z := V.int.inj z; omega))]
        refine iteF ?_
        have eF : nestF (d + 1) ord = if (cutF ord).2 = [] then none else (allO ((stretchF ord (cutF ord).2).map fun b => nestF d (leftF ord b))).map fun ns => if (cutF ord).1 = kS false then Nest.knot false ns.reverse else Nest.knot true ns := by
          rw [nestF, if_neg hl]
        refine ⟨_, rfl, o, ord, rfl, hT, hO, h1, by omega, fun t p H1 nt np hC s1 => ?_⟩
        refine ⟨_, rfl, t, _, 1, _, rfl, rfl, SqT.of hC.1, rfl, _, .inr (.inl ⟨_, SqT.of hC.2, rfl⟩), ?_⟩
        by_cases hp : (cutF ord).2 = []
        · have : (natV (cutF ord).2).isEmpty = true := by rw [hp]; rfl
          rw [this]
          refine iteT (q (.str barS) H1 ?_ s1)
          rw [eF, if_pos hp]
          rfl
        · have : (natV (cutF ord).2).isEmpty = false := by
            cases hx : (cutF ord).2 with
            | nil => exact absurd hx hp
            | cons a r => rfl
          rw [this]
          rw [if_neg hp] at eF
          refine iteF ⟨(by show 0 ≤ sizeLine; omega), fun pl hpl => ?_⟩
          have s2 := s1.trans (same_upd (o := .lst []) hpl)
          have e2 : (upd H1 pl (.lst [])) pl = some (.lst []) := upd_same
          have hC2 := And.intro (same_upd (o := .lst []) hpl _ _ hC.1) (same_upd (o := .lst []) hpl _ _ hC.2)
          have hpl0 : H pl = none := s1.free hpl
          generalize upd H1 pl (.lst []) = H2 at s2 e2 hC2 ⊢
          refine ⟨_, rfl, _, rfl, t, _, 1, _, rfl, rfl, SqT.of hC2.1, rfl, o, p, ord, (cutF ord).2, rfl, s2.sqt hT, hC2.2, cut_asc ord, hp, h1, by omega, fun qa qs H3 nq nqs eq hL s3 => ?_⟩
          have npl : pl ∉ qs := fun z => by rw [nqs pl z] at e2; cases e2
          have nqp : qa ≠ pl := fun z => by rw [z, e2] at nq; cases nq
          have slen := stretch_len ord (cutF ord).2
          have hql := hL.len
          have plen : (cutF ord).2.length ≤ 60 := by
            have : (cutF ord).2.length ≤ ord.length - 1 := by
              unfold cutF
              split
              · split
                · exact Nat.zero_le _
                · exact places_len ord (dnB ord) _
              · exact places_len ord (upB ord) _
            omega
          refine ⟨qa, rfl, ⟨_, SqL.of eq⟩, for_list (K := K) (a := qa) (xs := qs.map V.ref) (fun i σ Hx => ∃ (ns : List Nest) (us : List V) (v3 v4 : Option V), σ = [some (.ref o), some (.ref t), some (.ref pl), v3, v4] ∧ Same H Hx ∧ Hx t = some (.tup [.str (cutF ord).1, .ref p]) ∧ Hx pl = some (.lst us) ∧ NestsAt K Hx ns us ∧
              allO (((stretchF ord (cutF ord).2).take i).map fun b => nestF d (leftF ord b)) = some ns ∧ us.length = i ∧ Hx qa = some (.lst (qs.map V.ref)) ∧ LstsAt Hx qs (stretchF ord (cutF ord).2))
            ⟨[], [], none, none, rfl, s2.trans s3, s3 _ _ hC2.1, s3 _ _ e2, rfl, rfl, rfl, eq, hL⟩ (fun i σ Hx _ ⟨_, _, _, _, _, _, _, _, _, _, _, e, _⟩ => SqL.of e) ?_ ?_⟩
          · rintro i y σ Hx hi ⟨ns, us, v3, v4, rfl, sx, et, ep, hN, hall, hul, eqx, hLx⟩
            obtain ⟨x, hxi, rfl⟩ : ∃ x, qs[i]? = some x ∧ y = V.ref x := by
              rw [List.getElem?_map] at hi
              cases hq : qs[i]? with
              | none => rw [hq] at hi; cases hi
              | some x => rw [hq] at hi; exact ⟨x, rfl, (Option.some.inj hi).symm⟩
            obtain ⟨b, hb, ex⟩ := hLx.get hxi
            obtain ⟨hbn, hbs, hbl⟩ := stretch_ok (cut_asc ord) h1 hp hb
            have hbnd : b.Nodup := hO.nodup.sublist hbs
            have hbm : ∀ w ∈ b, w ∈ ord := fun w hw => hbs.mem hw
            have hbr : ∀ w ∈ b, 0 ≤ w ∧ w < ord.length := fun w hw => hO.mem.mp (hbm w hw)
            have hlo := left_ord hO hbnd hbm
            have hil : i < (stretchF ord (cutF ord).2).length := (List.getElem?_eq_some_iff.mp hb).1
            have hdg : diffG (ord.length : Int) [] (b.map V.int) = true := diffG_iff.mpr ⟨b, rfl, hbnd, hbr, fun u _ h => nomatch h⟩
            have hbl0 : 0 < b.length := List.length_pos_iff.mpr hbn
            have hgi : (((stretchF ord (cutF ord).2).map fun b => nestF d (leftF ord b)))[i]? = some (nestF d (leftF ord b)) := by rw [List.getElem?_map, hb]; rfl
            refine ⟨_, rfl, _, rfl, o, x, ord, b.map V.int, rfl, sx.sqt hT, by omega, SqL.of ex, by rw [List.length_map]; omega, (fun v hv => ?_), (fun ws ews hw1 hw2 hw3 hw4 tt H4 ntt ett s4 => ?_), .inr (fun _ => by rw [List.length_map]; omega), (fun bad => ?_)⟩
            · obtain ⟨w, _, rfl⟩ := List.mem_map.mp hv
              exact .inl ⟨w, rfl⟩
            · have : ws = b := (intV_inj ews).symm
              subst this
              refine ⟨tt, leftF ord ws, rfl, SqT.of ett, hlo.1, by rw [hlo.2]; omega, by rw [hlo.2]; omega, by rw [hlo.2]; omega, fun v H5 hv s5 => ?_⟩
              have S5 := s4.trans s5
              refine ⟨_, rfl, barS, rfl, ?_⟩
              cases hn : nestF d (leftF ord ws) with
              | none =>
                rw [hn] at hv hgi
                have hv : v = .str barS := hv
                subst hv
                refine .inr (.inr ⟨barS, rfl, _, rfl, ?_⟩)
                rw [if_neg (by decide), decide_eq_true rfl]
                refine iteT (q (.str barS) H5 ?_ (sx.trans S5))
                rw [eF, allO_none hgi]
                rfl
              | some n =>
                rw [hn] at hv hgi
                have hv : NestAt K H5 n v := hv
                have go : (fun (σ' : L2.St) (Hz : Hp) => ∃ (ns : List Nest) (us : List V) (v3 v4 : Option V), σ' = [some (.ref o), some (.ref t), some (.ref pl), v3, v4] ∧ Same H Hz ∧ Hz t = some (.tup [.str (cutF ord).1, .ref p]) ∧ Hz pl = some (.lst us) ∧ NestsAt K Hz ns us ∧
                    allO (((stretchF ord (cutF ord).2).take (i + 1)).map fun b => nestF d (leftF ord b)) = some ns ∧ us.length = i + 1 ∧ Hz qa = some (.lst (qs.map V.ref)) ∧ LstsAt Hz qs (stretchF ord (cutF ord).2)) [some (.ref o), some (.ref t), some (.ref pl), some (.ref x), some v] (upd H5 pl (.lst (us ++ [v]))) := by
                  have ep5 := S5 _ _ ep
                  refine ⟨ns ++ [n], us ++ [v], _, _, rfl, fun a oa ea => ?_, ?_, upd_same, ?_, ?_, by simp [hul], ?_, ?_⟩
                  · rw [upd_ne (ne_of_none ea hpl0)]
                    exact S5 _ _ (sx _ _ ea)
                  · rw [upd_ne (ne_of et ep (by intro z; cases z))]
                    exact S5 _ _ et
                  · exact NestsAt.updL ep5 (NestsAt.app (hN.mono S5) (NestsAt.one hv))
                  · rw [List.take_succ, hb, List.map_append]
                    show allO (_ ++ [nestF d (leftF ord ws)]) = _
                    rw [hn]
                    exact allO_snoc n hall
                  · rw [upd_ne nqp]
                    exact S5 _ _ eqx
                  · exact LstsAt.upd npl (hLx.mono S5)
                have app : ∀ {Dn : Ends}, Dn.nx [some (.ref o), some (.ref t), some (.ref pl), some (.ref x), some v] (upd H5 pl (.lst (us ++ [v]))) → tDrop (tBM K "list" rAppend (tVar 2) (tCons (tVar 4) tNil)) Dn [some (.ref o), some (.ref t), some (.ref pl), some (.ref x), some v] H5 := fun {Dn} h =>
                  ⟨_, rfl, .inl ⟨rfl, _, SqL.of (S5 _ _ ep)⟩, _, rfl, pl, _, _, rfl, rfl, S5 _ _ ep, small1000 (by omega), h⟩
                cases n with
                | bad => exact absurd hn (nestF_bad _ _)
                | word =>
                  have e : v = .non := hv
                  subst e
                  exact .inl ⟨rfl, _, rfl, iteF (app go)⟩
                | knot k ps' =>
                  obtain ⟨ad, bd, ws', rfl, ea, _⟩ := hv
                  exact .inr (.inl ⟨ad, _, rfl, SqT.of ea, _, rfl, iteF (app go)⟩)
            · rcases bad with z | z
              · exact absurd (List.map_eq_nil_iff.mp z) hbn
              · rw [hdg] at z
                cases z
          · rintro σ Hx ⟨ns, us, v3, v4, rfl, sx, et, ep, hN, hall, hul, eqx, hLx⟩
            rw [List.length_map, hql] at hall hul
            rw [List.take_length] at hall
            rw [hall] at eF
            have hnl := hN.len
            have h2 : 2 ≤ us.length ∧ us.length ≤ 1000 := by
              have : 0 < (cutF ord).2.length := List.length_pos_iff.mpr hp
              omega
            dsimp only
            refine seq_if (fun σ' Hy => ∃ us' : List V, σ' = [some (.ref o), some (.ref t), some (.ref pl), v3, v4] ∧ Same H Hy ∧ Hy t = some (.tup [.str (cutF ord).1, .ref p]) ∧ Hy pl = some (.lst us') ∧ us'.length = us.length ∧ NestsAt K Hy (if (cutF ord).1 = kS false then ns.reverse else ns) us') ?_ fun hrest => ?_
            · rintro σ' Hy ⟨us', rfl, sy, ety, epy, hul', hNy⟩
              refine ⟨_, rfl, t, _, 0, _, rfl, rfl, SqT.of ety, rfl, _, rfl, pl, _, rfl, .inl ⟨SqL.of epy, fun tp htp => ⟨(by show 2 ≤ sizeLine; decide), fun rp hrp => ?_⟩⟩⟩
              have s8 := (same_upd (o := .tup us') htp).trans (same_upd (o := .tup [.str (cutF ord).1, .ref tp]) hrp)
              refine q (.ref rp) _ ?_ (sy.trans s8)
              rw [eF]
              rcases cut_kind hp with hk | hk
              · rw [hk, if_pos rfl] at hNy
                show TellsN K _ (some (if (cutF ord).1 = kS false then Nest.knot false ns.reverse else Nest.knot true ns)) _
                rw [hk, if_pos rfl]
                exact ⟨rp, tp, us', rfl, by rw [upd_same], same_upd hrp _ _ upd_same, by omega, by omega, (hNy.mono (same_upd htp)).mono (same_upd hrp)⟩
              · rw [hk, if_neg (by decide +kernel)] at hNy
                show TellsN K _ (some (if (cutF ord).1 = kS false then Nest.knot false ns.reverse else Nest.knot true ns)) _
                rw [hk, if_neg (by decide +kernel)]
                exact ⟨rp, tp, us', rfl, by rw [upd_same], same_upd hrp _ _ upd_same, by omega, by omega, (hNy.mono (same_upd htp)).mono (same_upd hrp)⟩
            · refine ⟨_, rfl, t, _, 0, _, rfl, rfl, SqT.of et, rfl, rfl, _, rfl, ?_⟩
              by_cases hk : (cutF ord).1 = kS false
              · rw [decide_eq_true (show V.str (cutF ord).1 = V.str "-" by rw [hk]; rfl)]
                refine iteT ⟨_, rfl, .inl ⟨rfl, _, SqL.of ep⟩, pl, _, rfl, rfl, ep, hrest _ _ ⟨us.reverse, rfl, fun a oa ea => ?_, ?_, upd_same, by simp, ?_⟩⟩
                · rw [upd_ne (ne_of_none ea hpl0)]
                  exact sx _ _ ea
                · rw [upd_ne (ne_of et ep (by intro z; cases z))]
                  exact et
                · rw [if_pos hk]
                  exact NestsAt.updL ep (nests_rev hN)
              · rw [decide_eq_false (show ¬ V.str (cutF ord).1 = V.str "-" from fun z => hk (V.str.inj z))]
                refine iteF (hrest _ _ ⟨us, rfl, sx, et, ep, rfl, ?_⟩)
                rw [if_neg hk]
                exact hN
abbrev ns_bar_around : List Str := ["order", "second", "third", "least", "greatest", "ahead", "behind", "first", "fourth"]
theorem sc_bar_around : FnScope ns_bar_around ["order", "second", "third"] (defScope s_bar_around) := ⟨rfl, rfl, rfl, by decide +kernel, rfl, by decide +kernel, by decide +kernel⟩
def cp_bar_around_0 (s : Stmt) : Scope := match (defBody s).getD 2 (.Pass ⟨0, 0, 0, 0⟩) with
  | .Assign _ (.ListComp _ _ sc _) _ => sc
  | _ => defScope s
theorem cs_bar_around_0 : CScope (defScope s_bar_around) (cp_bar_around_0 s_bar_around) "place" ["place", "order", "least", "greatest"] ns_bar_around [0, 3, 4] := cs_of (by decide +kernel)
def cp_bar_around_1 (s : Stmt) : Scope := match (defBody s).getD 3 (.Pass ⟨0, 0, 0, 0⟩) with
  | .Assign _ (.ListComp _ _ sc _) _ => sc
  | _ => defScope s
theorem cs_bar_around_1 : CScope (defScope s_bar_around) (cp_bar_around_1 s_bar_around) "place" ["place", "order", "least", "greatest"] ns_bar_around [0, 3, 4] := cs_of (by decide +kernel)
theorem ok_around {c tp : Addr} {tq : Str} (D : DefC K mg "bar_around" s_bar_around ["order", "second", "third"] c) (T : Txt mg) (BM : BmAt mg base) (CH : PySem.W.CodeHd base c tp) (etq : tq = "bar_around.<locals>.<lambda>") : Has P w K mg base CX0 2 "bar_around" ["order", "second", "third"] (spBarAround K tp tq) := by
  subst etq
  refine D.ok sc_bar_around (fun vs H Q E h => ?_) (fun f A outer s H vs Q E hr h => ?_)
  · obtain ⟨a, ord, j, k, rfl, _⟩ := h; rfl
  · obtain ⟨a, ord, j, k, rfl, hT, hl, hjk, hk, hp, q1, q2⟩ := h
    refine go_c (ps_set (i := 3) sc_bar_around.nd rfl (Or.inr rfl) (pe_ix ix_tup (pv 0) (pv 2) (fun _ _ => rfl))) ?_
    intro t0'
    refine go_c (ps_set (i := 4) sc_bar_around.nd rfl (Or.inr rfl) (pe_ix ix_tup (pv 0) (pv 1) (fun _ _ => rfl))) ?_
    intro t1'
    refine go_c (ps_setComp (i := 5) sc_bar_around.nd rfl (Or.inl rfl) rfl cs_bar_around_0 rfl (pi_range1 rfl T.b.rng (pa_cons (pv 1) pa_nil)) (fun cl C fp s H => pg_name (i := 0) cs_bar_around_0.nd rfl (Or.inl rfl)) (fun cl C fp s H => pts_one (pt_chain op_lt op_lt (pv 2) (pe_ix (r := rIxT K) ix_tup (pv 1) (pv 0) (fun _ _ => rfl)) (pv 3))) (fun cl C fp s H => (pv 0)) rfl) ?_
    intro t2'
    refine go_c (ps_setComp (i := 6) sc_bar_around.nd rfl (Or.inl rfl) rfl cs_bar_around_1 rfl (pi_range2 rfl T.b.rng (pa_cons (pe_op op_add (pv 2) pe_int) (pa_cons (pe_callB call_len_seq (by rfl) T.b.len PySem.boot_len (pa_cons (pv 0) pa_nil)) pa_nil))) (fun cl C fp s H => pg_name (i := 0) cs_bar_around_1.nd rfl (Or.inl rfl)) (fun cl C fp s H => pts_one (pt_chain op_lt op_lt (pv 2) (pe_ix (r := rIxT K) ix_tup (pv 1) (pv 0) (fun _ _ => rfl)) (pv 3))) (fun cl C fp s H => (pv 0)) rfl) ?_
    intro t3'
    refine go_c (ps_if (PW.pt (pw_or (pt_not (pt_truth (pv 5) (fun _ => rfl))) (pw_or1 (pt_not (pt_truth (pv 6) (fun _ => rfl)))))) (pss_one (ps_ret pe_non)) pss_nil) ?_
    intro t4'
    refine go_c (ps_set (i := 7) sc_bar_around.nd rfl (Or.inl rfl) (pe_minkey (p := tp) (x := "order") (y := "place") (j := 0) rfl (hr.mono (by decide)) (by rfl) T.min boot_min BM rfl CH (by rfl) (by rfl) (lam_ix rfl rfl (by first | exact .inl rfl | exact .inr rfl) (fun _ _ _ _ _ _ => rfl) rfl rfl rfl rfl rfl (by decide) (by decide) (by decide)) (fun _ _ => rfl) (pv 5))) ?_
    intro t5'
    refine go_c (ps_set (i := 8) sc_bar_around.nd rfl (Or.inl rfl) (pe_maxkey (p := tp) (x := "order") (y := "place") (j := 0) rfl (hr.mono (by decide)) (by rfl) T.max boot_max BM rfl CH (by rfl) (by rfl) (lam_ix rfl rfl (by first | exact .inl rfl | exact .inr rfl) (fun _ _ _ _ _ _ => rfl) rfl rfl rfl rfl rfl (by decide) (by decide) (by decide)) (fun _ _ => rfl) (pv 6))) ?_
    intro t6'
    refine go_c (ps_if (pt_cmpR op_lt (pe_ix ix_tup (pv 0) (pv 7) (fun _ _ => rfl)) (pe_ix ix_tup (pv 0) (pv 8) (fun _ _ => rfl)) (nomark _)) (pss_one (ps_ret (pe_tup (pa_cons (pv 7) (pa_cons (pv 1) (pa_cons (pv 2) (pa_cons (pv 8) pa_nil))))))) pss_nil) ?_
    intro t7'
    refine go_1 (ps_ret pe_non) ?_
    intro t8'
    have hat := fun {i : Nat} (h : i < ord.length) => at_getD h
    have hln : (ord.map V.int).length = ord.length := List.length_map ..
    refine ⟨_, rfl, _, rfl, a, _, _, _, rfl, rfl, hT, hat hk, ?_⟩
    refine gname_go ?_
    dsimp only [List.set]
    refine ⟨_, rfl, _, rfl, a, _, _, _, rfl, rfl, hT, hat (show j < ord.length by omega), ?_⟩
    refine gname_go ?_
    dsimp only [List.set]
    refine ⟨_, rfl, (j : Int), rfl, by omega, by omega, fun D1 hD1 => ?_⟩
    rw [show (j : Int).toNat = j by omega]
    refine comp_btw (lo := 0) (n := j) (a := a) (ord := ord) (x := ord.getD k 0) (y := ord.getD j 0) hD1 hT (by omega) hl rfl ?_
    refine gname_go ?_
    dsimp only [List.set]
    have s1 := same_upd (o := .lst ((btw ord 0 j (ord.getD k 0) (ord.getD j 0)).map V.int)) hD1
    have e1 : (upd H D1 (.lst ((btw ord 0 j (ord.getD k 0) (ord.getD j 0)).map V.int))) D1 = some (.lst ((btw ord 0 j (ord.getD k 0) (ord.getD j 0)).map V.int)) := upd_same
    generalize upd H D1 (.lst ((btw ord 0 j (ord.getD k 0) (ord.getD j 0)).map V.int)) = H1 at s1 e1 ⊢
    refine ⟨_, rfl, _, _, rfl, rfl, _, rfl, a, _, rfl, .inr (s1.sqt hT), ?_⟩
    rw [hln]
    refine ⟨(k : Int) + 1, (ord.length : Int), rfl, ⟨by omega, by omega, by omega, by omega⟩, fun D2 hD2 => ?_⟩
    rw [show ((ord.length : Int) - ((k : Int) + 1)).toNat = ord.length - (k + 1) by omega, show (k : Int) + 1 = ((k + 1 : Nat) : Int) by omega]
    refine comp_btw (lo := k + 1) (n := ord.length - (k + 1)) (a := a) (ord := ord) (x := ord.getD k 0) (y := ord.getD j 0) hD2 (s1.sqt hT) (by omega) hl rfl ?_
    refine gname_go ?_
    dsimp only [List.set]
    have s2 := same_upd (o := .lst ((btw ord (k + 1) (ord.length - (k + 1)) (ord.getD k 0) (ord.getD j 0)).map V.int)) hD2
    have e2 : (upd H1 D2 (.lst ((btw ord (k + 1) (ord.length - (k + 1)) (ord.getD k 0) (ord.getD j 0)).map V.int))) D2 = some (.lst ((btw ord (k + 1) (ord.length - (k + 1)) (ord.getD k 0) (ord.getD j 0)).map V.int)) := upd_same
    generalize upd H1 D2 (.lst ((btw ord (k + 1) (ord.length - (k + 1)) (ord.getD k 0) (ord.getD j 0)).map V.int)) = H2 at s2 e2 ⊢
    have m1 : ∀ {z : Int}, z ∈ btw ord 0 j (ord.getD k 0) (ord.getD j 0) → ∃ i : Nat, i < j ∧ z = (i : Int) ∧ ord.getD k 0 < ord.getD i 0 ∧ ord.getD i 0 < ord.getD j 0 := fun {z} hz => by
      obtain ⟨i, _, h2, h3⟩ := mem_btw.mp hz
      exact ⟨i, by omega, h3⟩
    have m2 : ∀ {z : Int}, z ∈ btw ord (k + 1) (ord.length - (k + 1)) (ord.getD k 0) (ord.getD j 0) → ∃ i : Nat, k < i ∧ i < ord.length ∧ z = (i : Int) ∧ ord.getD k 0 < ord.getD i 0 ∧ ord.getD i 0 < ord.getD j 0 := fun {z} hz => by
      obtain ⟨i, h1, h2, h3⟩ := mem_btw.mp hz
      exact ⟨i, by omega, by omega, h3⟩
    have c1 : ∀ {i l : Nat}, BarAt ord i j k l → (i : Int) ∈ btw ord 0 j (ord.getD k 0) (ord.getD j 0) ∧ (l : Int) ∈ btw ord (k + 1) (ord.length - (k + 1)) (ord.getD k 0) (ord.getD j 0) := fun {i l} ⟨b1, b2, b3, b4, b5, b6, b7⟩ =>
      ⟨mem_btw.mpr ⟨i, by omega, by omega, rfl, b5, by omega⟩, mem_btw.mpr ⟨l, by omega, by omega, rfl, by omega, b7⟩⟩
    have n1 : ∀ {i : Nat}, i < j → ord.getD k 0 < ord.getD i 0 → ord.getD i 0 < ord.getD j 0 → (i : Int) ∈ btw ord 0 j (ord.getD k 0) (ord.getD j 0) := fun {i} g1 g2 g3 => mem_btw.mpr ⟨i, by omega, by omega, rfl, g2, g3⟩
    have n2 : ∀ {l : Nat}, k < l → l < ord.length → ord.getD k 0 < ord.getD l 0 → ord.getD l 0 < ord.getD j 0 → (l : Int) ∈ btw ord (k + 1) (ord.length - (k + 1)) (ord.getD k 0) (ord.getD j 0) := fun {l} g0 g1 g2 g3 => mem_btw.mpr ⟨l, by omega, by omega, rfl, g2, g3⟩
    have S2 := s1.trans s2
    generalize btw ord 0 j (ord.getD k 0) (ord.getD j 0) = as at e1 m1 c1 n1 ⊢
    generalize btw ord (k + 1) (ord.length - (k + 1)) (ord.getD k 0) (ord.getD j 0) = bs at e2 m2 c1 n2 ⊢
    cases as with
    | nil =>
      refine ⟨_, rfl, false, .inl ⟨_, SqL.of (s2 _ _ e1), rfl⟩, ?_⟩
      exact iteT (iteT (q2 _ (fun i l z => by have := (c1 z).1; cases this) S2))
    | cons a0 ar =>
      refine ⟨_, rfl, true, .inl ⟨_, SqL.of (s2 _ _ e1), rfl⟩, ?_⟩
      refine iteF ?_
      cases bs with
      | nil =>
        refine ⟨_, rfl, false, .inl ⟨_, SqL.of e2, rfl⟩, ?_⟩
        exact iteT (q2 _ (fun i l z => by have := (c1 z).2; cases this) S2)
      | cons b0 br =>
        refine ⟨_, rfl, true, .inl ⟨_, SqL.of e2, rfl⟩, ?_⟩
        refine iteF ?_
        have kys : ∀ {z : Int} {i : Nat}, z = (i : Int) → i < ord.length → 0 ≤ z ∧ (ord.map V.int)[z.toNat]? = some (V.int (ord.getD z.toNat 0)) := fun {z i} hz hi => by
          subst hz
          refine ⟨by omega, ?_⟩
          rw [show (i : Int).toNat = i by omega, List.getElem?_map, List.getElem?_eq_getElem hi, List.getD_eq_getElem?_getD, List.getElem?_eq_getElem hi]
          rfl
        refine ⟨_, rfl, D1, a, a0 :: ar, _, fun z => ord.getD z.toNat 0, rfl, SqL.of (s2 _ _ e1), (by simp), S2 _ _ hp, rfl, .inr (S2.sqt hT), (fun n hn => ?_), fun m hm best1 H3 s3 => ?_⟩
        · obtain ⟨i, h1, h2, _⟩ := m1 hn
          exact kys h2 (by omega)
        have s3 : Same H2 H3 := s3
        refine gname_go ?_
        dsimp only [List.set]
        refine ⟨_, rfl, D2, a, b0 :: br, _, fun z => ord.getD z.toNat 0, rfl, SqL.of (s3 _ _ e2), (by simp), s3 _ _ (S2 _ _ hp), rfl, .inr ((S2.trans s3).sqt hT), (fun n hn => ?_), fun m' hm' best2 H4 s4 => ?_⟩
        · obtain ⟨i, _, h1, h2, _⟩ := m2 hn
          exact kys h2 h1
        have s4 : Same H3 H4 := s4
        have S4 := S2.trans (s3.trans s4)
        refine gname_go ?_
        dsimp only [List.set]
        obtain ⟨i, hi, rfl, hi1, hi2⟩ := m1 hm
        obtain ⟨l, hl1, hl2, rfl, hl3, hl4⟩ := m2 hm'
        refine ⟨_, rfl, _, rfl, a, _, _, _, rfl, rfl, S4.sqt hT, hat (show i < ord.length by omega), _, rfl, _, rfl, a, _, _, _, rfl, rfl, S4.sqt hT, hat hl2, _, _, rfl, rfl, _, rfl, ?_⟩
        by_cases hil : ord.getD i 0 < ord.getD l 0
        · rw [decide_eq_true hil]
          refine iteT ⟨_, rfl, _, rfl, _, rfl, _, rfl, (by show 4 ≤ sizeLine; decide), fun b hb => ?_⟩
          refine q1 i l b _ ⟨⟨hi, hjk, hl1, hl2, hi1, hil, hl4⟩, fun i' g1 g2 g3 => ?_, fun l' g0 g1 g2 g3 => ?_⟩ upd_same (S4.trans (same_upd hb))
          · have := best1 (i' : Int) (n1 g1 g2 g3)
            simpa only [Int.toNat_natCast] using this
          · have := best2 (l' : Int) (n2 g0 g1 g2 g3)
            simpa only [Int.toNat_natCast] using this
        · rw [decide_eq_false hil]
          refine iteF (q2 _ (fun i' l' z => ?_) S4)
          obtain ⟨h1, h2⟩ := c1 z
          have g1 := best1 _ h1
          have g2 := best2 _ h2
          simp only [Int.toNat_natCast] at g1 g2
          have := z.2.2.2.2.2.1
          omega
abbrev ns_falling_bar : List Str := ["order", "second", "third", "places"]
theorem sc_falling_bar : FnScope ns_falling_bar ["order"] (defScope s_falling_bar) := ⟨rfl, rfl, rfl, by decide +kernel, rfl, by decide +kernel, by decide +kernel⟩
theorem ok_falling {tp : Addr} {tq : Str} (D : Def K mg "falling_bar" s_falling_bar ["order"]) (T : Txt mg) (h_bar_around : Has P w K mg base CX0 2 "bar_around" ["order", "second", "third"] (spBarAround K tp tq)) : Has P w K mg base CX0 3 "falling_bar" ["order"] (spFalling K tp tq) := by
  refine D.ok sc_falling_bar (fun vs H Q E h => ?_) (fun f cdv A outer s H vs Q E hr h => ?_)
  · obtain ⟨a, ord, rfl, _⟩ := h; rfl
  · obtain ⟨a, ord, rfl, hT, hl, hp, q1, q2⟩ := h
    refine go_c (ps_for PassesOwn.never rfl (pi_range2 rfl T.b.rng (pa_cons pe_int (pa_cons (pe_op op_sub (pe_callB call_len_seq (by rfl) T.b.len PySem.boot_len (pa_cons (pv 0) pa_nil)) pe_int) pa_nil))) (pg_name (i := 1) sc_falling_bar.nd rfl (Or.inl rfl)) (pss_one (ps_for PassesOwn.never rfl (pi_range2 rfl T.b.rng (pa_cons (pe_op op_add (pv 1) pe_int) (pa_cons (pe_op op_sub (pe_callB call_len_seq (by rfl) T.b.len PySem.boot_len (pa_cons (pv 0) pa_nil)) pe_int) pa_nil))) (pg_name (i := 2) sc_falling_bar.nd rfl (Or.inl rfl)) (pss_cons (ps_set (i := 3) sc_falling_bar.nd rfl (Or.inl rfl) (pe_has h_bar_around hr (by rfl) pass0 (pa_cons (pv 0) (pa_cons (pv 1) (pa_cons (pv 2) pa_nil)))))
      (pss_one (ps_if (pt_cmpR op_notN (pv 3) pe_non (nomark _)) (pss_one (ps_ret (pv 3))) pss_nil)))))) ?_
    intro t0'
    refine go_1 (ps_ret pe_non) ?_
    intro t1'
    have hln : (ord.map V.int).length = ord.length := List.length_map ..
    refine ⟨_, rfl, a, _, rfl, .inr hT, _, _, rfl, rfl, ?_⟩
    rw [hln]
    refine ⟨1, (ord.length : Int) - 2, rfl, ⟨by decide, by decide, by omega, by omega⟩, ?_⟩
    refine for_range (n := ((ord.length : Int) - 2 - 1).toNat) (lo := 1) (fun i σ Hx => ∃ v1 v2 v3 : Option V, σ = [some (.ref a), v1, v2, v3] ∧ Same H Hx ∧ ∀ i' j k l, j < 1 + i → ¬ BarAt ord i' j k l) ⟨none, none, none, rfl, Same.refl _, fun i' j k l hj z => by have := z.1; omega⟩ ?_ ?_
    · rintro i σ Hx hi ⟨v1, v2, v3, rfl, sx, no⟩
      refine gname_go ?_
      dsimp only [List.set]
      rw [show (1 : Int) + (i : Int) = ((1 + i : Nat) : Int) by omega]
      refine ⟨_, rfl, _, _, rfl, rfl, _, rfl, a, _, rfl, .inr (sx.sqt hT), _, _, rfl, rfl, ?_⟩
      rw [hln]
      refine ⟨((1 + i : Nat) : Int) + 1, (ord.length : Int) - 1, rfl, ⟨by omega, by omega, by omega, by omega⟩, ?_⟩
      refine for_range (n := ((ord.length : Int) - 1 - (((1 + i : Nat) : Int) + 1)).toNat) (lo := ((1 + i : Nat) : Int) + 1) (fun t σ Hy => ∃ v2 v3 : Option V, σ = [some (.ref a), some (.int ((1 + i : Nat) : Int)), v2, v3] ∧ Same H Hy ∧ ∀ i' k l, k < 2 + i + t → ¬ BarAt ord i' (1 + i) k l) ⟨v2, v3, rfl, sx, fun i' k l hk z => by have := z.2.1; omega⟩ ?_ ?_
      · rintro t σ Hy ht ⟨v2, v3, rfl, sy, no2⟩
        refine gname_go ?_
        dsimp only [List.set]
        rw [show ((1 + i : Nat) : Int) + 1 + (t : Int) = ((2 + i + t : Nat) : Int) by omega]
        refine ⟨_, rfl, _, rfl, _, rfl, a, ord, 1 + i, 2 + i + t, rfl, sy.sqt hT, hl, by omega, by omega, sy _ _ hp, fun i' l b Hz hb eb sz => ?_, fun Hz nb sz => ?_⟩
        · refine gname_go ?_
          dsimp only [List.set]
          refine ⟨_, rfl, rfl, _, rfl, iteT ⟨_, rfl, q1 _ _ _ _ b Hz ⟨hb, fun i2 j2 k2 l2 z => ?_⟩ eb (sy.trans sz)⟩⟩
          by_cases e1 : j2 < 1 + i
          · exact absurd z (no _ _ _ _ e1)
          · by_cases e2 : j2 = 1 + i
            · subst e2
              by_cases e3 : k2 < 2 + i + t
              · exact absurd z (no2 _ _ _ e3)
              · exact .inr ⟨rfl, by omega⟩
            · exact .inl (by omega)
        · refine gname_go ?_
          dsimp only [List.set]
          refine ⟨_, rfl, rfl, _, rfl, iteF ⟨_, _, rfl, sy.trans sz, fun i' k l hk z => ?_⟩⟩
          by_cases e : k = 2 + i + t
          · subst e
            exact nb _ _ z
          · exact no2 i' k l (by omega) z
      · rintro σ Hy ⟨v2, v3, rfl, sy, no2⟩
        refine ⟨_, _, _, rfl, sy, fun i' j k l hj z => ?_⟩
        by_cases e : j = 1 + i
        · subst e
          have := z.2.2.1
          have := z.2.2.2.1
          exact no2 i' k l (by omega) z
        · exact no i' j k l (by omega) z
    · rintro σ Hx ⟨v1, v2, v3, rfl, sx, no⟩
      refine q2 Hx (fun i j k l z => ?_) sx
      have h1 := z.2.1
      have h2 := z.2.2.1
      have h3 := z.2.2.2.1
      exact no i j k l (by omega) z
abbrev ns_mirror : List Str := ["order"]
theorem sc_mirror : FnScope ns_mirror ["order"] (defScope s_mirror) := ⟨rfl, rfl, rfl, by decide +kernel, rfl, by decide +kernel, by decide +kernel⟩
theorem ok_mirror (D : Def K mg "mirror" s_mirror ["order"]) (T : Txt mg) : Has P w K mg base CX0 1 "mirror" ["order"] (spMirror K) := by
  refine D.ok sc_mirror (fun vs H Q E h => ?_) (fun f cdv A outer s H vs Q E hr h => ?_)
  · obtain ⟨a, ord, rfl, _⟩ := h; rfl
  · obtain ⟨a, ord, rfl, hT, hl, q⟩ := h
    refine ⟨_, (pss_one (ps_ret (pe_tupRev (by rfl) (by rfl) T.b.tup T.rev rfl (pa_cons (pv 0) pa_nil)))), ?_⟩
    refine ⟨_, rfl, a, _, rfl, hT, fun t ht => ?_⟩
    rw [← List.map_reverse]
    exact q t _ upd_same (same_upd ht)
abbrev ns_bar_of : List Str := ["order", "places", "mirrored", "last"]
theorem sc_bar_of : FnScope ns_bar_of ["order"] (defScope s_bar_of) := ⟨rfl, rfl, rfl, by decide +kernel, rfl, by decide +kernel, by decide +kernel⟩
def cp_bar_of_0 (s : Stmt) : Scope := match (defBody s).getD 5 (.Pass ⟨0, 0, 0, 0⟩) with
  | .Return (some (.Call _ [(.ListComp _ _ sc _)] _ _)) _ => sc
  | _ => defScope s
theorem cs_bar_of_0 : CScope (defScope s_bar_of) (cp_bar_of_0 s_bar_of) "place" ["place", "last"] ns_bar_of [3] := cs_of (by decide +kernel)
theorem ok_barof {tp : Addr} {tq : Str} (D : Def K mg "bar_of" s_bar_of ["order"]) (T : Txt mg) (h_falling_bar : Has P w K mg base CX0 3 "falling_bar" ["order"] (spFalling K tp tq)) (h_mirror : Has P w K mg base CX0 1 "mirror" ["order"] (spMirror K)) : Has P w K mg base CX0 4 "bar_of" ["order"] (spBarOf K tp tq) := by
  refine D.ok sc_bar_of (fun vs H Q E h => ?_) (fun f cdv A outer s H vs Q E hr h => ?_)
  · obtain ⟨a, ord, rfl, _⟩ := h; rfl
  · obtain ⟨a, ord, rfl, hT, h1, hl, hp, q1, q2⟩ := h
    refine go_c (ps_set (i := 1) sc_bar_of.nd rfl (Or.inl rfl) (pe_has h_falling_bar hr (by rfl) pass0 (pa_cons (pv 0) pa_nil))) ?_
    intro t0'
    refine go_c (ps_if (pt_cmpR op_notN (pv 1) pe_non (nomark _)) (pss_one (ps_ret (pv 1))) pss_nil) ?_
    intro t1'
    refine go_c (ps_set (i := 2) sc_bar_of.nd rfl (Or.inl rfl) (pe_has h_falling_bar hr (by rfl) pass0 (pa_cons (pe_has h_mirror (hr.mono (by first | decide | omega)) (by rfl) pass0 (pa_cons (pv 0) pa_nil)) pa_nil))) ?_
    intro t2'
    refine go_c (ps_if (pt_cmpR op_isN (pv 2) pe_non (nomark _)) (pss_one (ps_ret pe_non)) pss_nil) ?_
    intro t3'
    refine go_c (ps_set (i := 3) sc_bar_of.nd rfl (Or.inr rfl) (pe_op op_sub (pe_callB call_len_seq (by rfl) T.b.len PySem.boot_len (pa_cons (pv 0) pa_nil)) pe_int)) ?_
    intro t4'
    refine go_1 (ps_ret (pe_callTy call_tuple_of (by rfl) T.b.tup boot_ty_tuple (pa_cons (pe_comp rfl cs_bar_of_0 rfl (pi_revT rfl T.rev (pv 2)) (fun cl C fp s H => pg_name (i := 0) cs_bar_of_0.nd rfl (Or.inl rfl)) (fun cl C fp s H => pts_nil) (fun cl C fp s H => (pe_op op_sub (pv 1) (pv 0)))) pa_nil))) ?_
    intro t5'
    have hln : (ord.map V.int).length = ord.length := List.length_map ..
    refine ⟨_, rfl, a, ord, rfl, hT, hl, hp, fun i j k l b H1 hb eb s1 => ?_, fun H1 no s1 => ?_⟩
    · refine gname_go ?_
      dsimp only [List.set]
      exact ⟨_, rfl, rfl, _, rfl, iteT ⟨_, rfl, q1 i j k l b H1 (.inl hb) eb s1⟩⟩
    · refine gname_go ?_
      dsimp only [List.set]
      refine ⟨_, rfl, rfl, _, rfl, iteF ?_⟩
      refine ⟨_, rfl, a, ord, rfl, s1.sqt hT, hl, fun m H2 em s2 => ?_⟩
      refine ⟨m, ord.reverse, rfl, SqT.of em, by rw [List.length_reverse]; exact hl, s2 _ _ (s1 _ _ hp), fun i j k l b H3 hb eb s3 => ?_, fun H3 no2 s3 => ?_⟩
      · refine gname_go ?_
        dsimp only [List.set]
        have S3 := s1.trans (s2.trans s3)
        refine ⟨_, rfl, rfl, _, rfl, iteF ?_⟩
        refine ⟨_, rfl, a, _, rfl, .inr (S3.sqt hT), _, _, rfl, rfl, ?_⟩
        refine gname_go ?_
        dsimp only [List.set]
        rw [hln]
        have hF := hb
        obtain ⟨b1, b2, b3, b4, _⟩ := hb.1.1
        rw [List.length_reverse] at b4
        refine ⟨_, rfl, b, _, rfl, SqT.of eb, fun D hD => ?_⟩
        have hf : ((List.range 4).map fun t => V.int ((ord.length : Int) - 1 - ([(i : Int), j, k, l].reverse.getD t 0))) = [V.int ((ord.length - 1 - l : Nat) : Int), V.int ((ord.length - 1 - k : Nat) : Int), V.int ((ord.length - 1 - j : Nat) : Int), V.int ((ord.length - 1 - i : Nat) : Int)] := by
          show [V.int ((ord.length : Int) - 1 - (l : Int)), V.int ((ord.length : Int) - 1 - (k : Int)), V.int ((ord.length : Int) - 1 - (j : Int)), V.int ((ord.length : Int) - 1 - (i : Int))] = _
          rw [show (ord.length : Int) - 1 - (l : Int) = ((ord.length - 1 - l : Nat) : Int) by omega, show (ord.length : Int) - 1 - (k : Int) = ((ord.length - 1 - k : Nat) : Int) by omega, show (ord.length : Int) - 1 - (j : Int) = ((ord.length - 1 - j : Nat) : Int) by omega, show (ord.length : Int) - 1 - (i : Int) = ((ord.length - 1 - i : Nat) : Int) by omega]
        refine comp_revT (fun t => V.int ((ord.length : Int) - 1 - ([(i : Int), j, k, l].reverse.getD t 0))) (by show 4 ≤ sizeLine; decide) (fun acc => (same_upd hD).sqt (SqT.of eb)) (fun t y acc R hy hR => ?_) ?_
        · have hy2 : y = V.int ([(i : Int), j, k, l].reverse.getD t 0) := by
            match t, hy with
            | 0, hy => exact (Option.some.inj hy).symm
            | 1, hy => exact (Option.some.inj hy).symm
            | 2, hy => exact (Option.some.inj hy).symm
            | 3, hy => exact (Option.some.inj hy).symm
          subst hy2
          exact ⟨_, rfl, _, rfl, _, _, rfl, rfl, hR⟩
        · show _
          rw [show [V.int (i : Int), V.int (j : Int), V.int (k : Int), V.int (l : Int)].length = 4 from rfl, hf]
          refine ⟨D, _, rfl, .inl ⟨SqL.of upd_same, fun t ht => ?_⟩⟩
          exact q1 _ _ _ _ t _ (.inr ⟨no, i, j, k, l, hF, rfl, rfl, rfl, rfl⟩) upd_same (S3.trans ((same_upd hD).trans (same_upd ht)))
      · refine gname_go ?_
        dsimp only [List.set]
        refine ⟨_, rfl, rfl, _, rfl, iteT (q2 H3 (fun i j k l => ⟨no i j k l, fun z => no2 _ _ _ _ (up_rev z)⟩) (s1.trans (s2.trans s3)))⟩
abbrev ns_order_of : List Str := ["nest", "order"]
theorem sc_order_of : FnScope ns_order_of ["nest"] (defScope s_order_of) := ⟨rfl, rfl, rfl, by decide +kernel, rfl, by decide +kernel, by decide +kernel⟩
def cp_order_of_0 (s : Stmt) : Scope := match (defBody s).getD 3 (.Pass ⟨0, 0, 0, 0⟩) with
  | .Return (some (.Call _ [_, (.ListComp _ _ sc _)] _ _)) _ => sc
  | _ => defScope s
theorem cs_order_of_0 : CScope (defScope s_order_of) (cp_order_of_0 s_order_of) "part" ["part"] ns_order_of [] := cs_of (by decide +kernel)
theorem ok_orderof {C : Addr} (D : Def K mg "order_of" s_order_of ["nest"]) (T : Txt mg) (h_mirror : Has P w K mg base CX0 1 "mirror" ["order"] (spMirror K)) (h_put_together : Has P w K mg base (CXV P w) 2 "put_together" ["order", "orders"] (spPut K C)) : ∀ d, Has P w K mg base CX0 (d + 2) "order_of" ["nest"] (spOrderOf K d)
  | 0 => D.rec0 fun vs H Q E ⟨_, _, _, _, _, _, h, _⟩ => absurd h (Nat.not_lt_zero _)
  | d + 1 => by
    have h_order_of := ok_orderof D T h_mirror h_put_together d
    refine D.ok sc_order_of (fun vs H Q E h => ?_) (fun f cdv A outer s H vs Q E hr h => ?_)
    · obtain ⟨v, n, o, rfl, _⟩ := h; rfl
    · obtain ⟨v, n, o, rfl, hN, hv, hd, hw, q⟩ := h
      refine go_c (ps_if (pt_cmpR op_isN (pv 0) pe_non (nomark _)) (pss_one (ps_ret (pe_tup (pa_cons pe_int pa_nil)))) pss_nil) ?_
      intro t0'
      refine go_c (ps_set (i := 1) sc_order_of.nd rfl (Or.inl rfl) (pe_callTy (call_tupleRange rfl) (by rfl) T.b.tup boot_ty_tuple (pa_cons (pe_callTy call_rangeO (by rfl) T.b.rng boot_ty_range (pa_cons (pe_callB call_len_seq (by rfl) T.b.len PySem.boot_len (pa_cons (pe_ix ix_tup (pv 0) pe_int (fun _ _ => rfl)) pa_nil)) pa_nil)) pa_nil))) ?_
      intro t1'
      refine go_c (ps_if (pt_cmpR op_eq (pe_ix ix_tup (pv 0) pe_int (fun _ _ => rfl)) pe_str (nomark _)) (pss_one (ps_set (i := 1) sc_order_of.nd rfl (Or.inl rfl) (pe_has h_mirror (hr.mono (by first | decide | omega)) (by rfl) pass0 (pa_cons (pv 1) pa_nil)))) pss_nil) ?_
      intro t2'
      refine go_1 (ps_ret (pe_has h_put_together (hr.mono (by first | decide | omega)) (by rfl) pass0V (pa_cons (pv 1) (pa_cons (pe_comp rfl cs_order_of_0 rfl (pi_tup (pe_ix ix_tup (pv 0) pe_int (fun _ _ => rfl))) (fun cl C fp s H => pg_name (i := 0) cs_order_of_0.nd rfl (Or.inl rfl)) (fun cl C fp s H => pts_nil) (fun cl C fp s H => (pe_has h_order_of hr (by rfl) pass0 (pa_cons (pv 0) pa_nil)))) pa_nil)))) ?_
      intro t3'
      cases n with
      | word =>
        have e : v = .non := hN
        subst e
        refine ⟨_, rfl, rfl, _, rfl, iteT ⟨(by show 1 ≤ sizeLine; decide), fun t ht => ?_⟩⟩
        exact q t _ ht upd_same (same_upd ht)
      | bad => exact absurd hv (by simp [valid])
      | knot k ps =>
        obtain ⟨a, b, us, rfl, ea, eb, hu2, hu3, hps⟩ := hN
        have hpl := hps.len
        have hvp : validL k ps = true := by simp only [valid, Bool.and_eq_true] at hv; exact hv.2
        refine ⟨_, rfl, rfl, _, rfl, iteF ?_⟩
        refine ⟨_, rfl, a, _, 1, _, rfl, rfl, SqT.of ea, rfl, b, _, rfl, .inr (SqT.of eb), (us.length : Int), rfl, fun rp hrp => ⟨rp, us.length, rfl, upd_same, by omega, fun op hop => ?_⟩⟩
        have s1 := (same_upd (o := .rng 0 (us.length : Int)) hrp).trans (same_upd (o := .tup ((List.range us.length).map fun (i : Nat) => V.int (0 + (i : Int)))) hop)
        have e1 : (upd (upd H rp (.rng 0 (us.length : Int))) op (.tup ((List.range us.length).map fun (i : Nat) => V.int (0 + (i : Int))))) op = some (.tup ((upto us.length).map V.int)) := by
          rw [upd_same]
          unfold upto
          rw [List.map_map]
          congr 2
          exact List.map_congr_left fun i _ => by show V.int (0 + (i : Int)) = V.int (i : Int); rw [Int.zero_add]
        generalize upd (upd H rp (.rng 0 (us.length : Int))) op (.tup ((List.range us.length).map fun (i : Nat) => V.int (0 + (i : Int)))) = H1 at s1 e1 ⊢
        refine gname_go ?_
        dsimp only [List.set]
        refine seq_if (fun σ' Hx => ∃ t2 : Addr, σ' = [some (.ref a), some (.ref t2)] ∧ Hx t2 = some (.tup ((ordK k us.length).map V.int)) ∧ Same H Hx) ?_ fun hrest => ?_
        · rintro σ' Hx ⟨t2, rfl, e2, s2⟩
          have hwk : words (Nest.knot k ps) = wordsL ps := by simp [words]
          have ea2 := s2 _ _ ea
          have eb2 := s2 _ _ eb
          refine ⟨_, rfl, _, rfl, a, _, 1, _, rfl, rfl, SqT.of ea2, rfl, b, rfl, ⟨_, SqT.of eb2⟩, fun D hD => ?_⟩
          refine comp_inv (n := us.length) (fun i acc Hc => ∃ qs : List Addr, acc = qs.map V.ref ∧ Tups Hc qs ((ps.take i).map fun n => rowN n 0) ∧ Hc D = some (.lst acc) ∧ Same Hx Hc ∧ i ≤ us.length ∧ qs.length = i) ⟨[], rfl, .nil, upd_same, same_upd hD, Nat.zero_le _, rfl⟩ ?_ (line1000 hu3) ?_ ?_ ?_
          · rintro i acc Hc ⟨qs, rfl, _, e, _, hi, hl⟩
            exact ⟨e, by rw [List.length_map, hl]⟩
          · rintro i acc Hc hi ⟨qs, rfl, _, e, sc, _⟩
            exact ⟨us, us[i], SqT.of (sc _ _ eb2), List.getElem?_eq_getElem hi⟩
          · rintro acc Hc ⟨qs, rfl, hq, e, sc, _, hl⟩
            refine ⟨⟨us, SqT.of (sc _ _ eb2), Nat.le_refl _⟩, ?_⟩
            rw [← hpl, List.take_length] at hq
            have hol : (ordK k us.length).length = us.length := ordK_len ..
            have hlw := lens_words hvp
            refine ⟨t2, D, _, qs, _, rfl, SqT.of (sc _ _ e2), by omega, (fun w hw' => by rw [hol]; exact ordK_mem hw'), SqL.of e, by omega, hq, fun x hx => ?_, fun h1 h2 t H' nt et st => ?_, fun hn => absurd ⟨?_, ?_⟩ hn⟩
            · rw [List.mem_map] at hx
              obtain ⟨n, hn, rfl⟩ := hx
              obtain ⟨i, hi⟩ := List.getElem?_of_mem hn
              rw [row_len 0 (validL_get hvp hi)]
              have := wordsL_at hi
              omega
            · rw [← hpl, tog_row] at et
              exact q t H' ((s2.trans sc).free nt) et ((s2.trans sc).trans st)
            · rw [hol, List.length_map]; exact hpl
            · rw [hlw]; omega
          · rintro i acc Hc y H5 R hi ⟨qs, rfl, hq, e, sc, _, hl⟩ ⟨rfl, hy⟩ hR
            obtain ⟨nn, hnn, hnv⟩ := hps.get (hy _ (SqT.of (sc _ _ eb2)))
            have hdn := depthL_get hnn
            have hwn := wordsL_at hnn
            simp only [depthN] at hd
            refine ⟨_, rfl, y, nn, some k, rfl, hnv.mono (s2.trans sc), validL_get hvp hnn, by omega, by omega, fun t H6 nt et s6 => hR _ _ (s6 _ _ e) ⟨qs ++ [t], by simp, ?_, upd_same, fun b' o' e' => ?_, hi, by simp [hl]⟩⟩
            · rw [List.take_succ, hnn, List.map_append]
              exact Tups.updL (s6 _ _ e) ((hq.mono s6).app (.cons et .nil))
            · rw [upd_ne (ne_of_none e' hD)]
              exact s6 _ _ (sc _ _ e')
        · refine ⟨_, rfl, a, _, 0, _, rfl, rfl, SqT.of (s1 _ _ ea), rfl, rfl, _, rfl, ?_⟩
          cases k with
          | true => exact iteF (hrest _ _ ⟨op, rfl, e1, s1⟩)
          | false =>
            refine iteT ⟨_, rfl, op, _, rfl, SqT.of e1, by unfold upto; simp; omega, fun m H2 em s2 => ?_⟩
            refine gname_go ?_
            exact hrest _ _ ⟨m, rfl, em, s1.trans s2⟩
def spSeen (K : PySem.W.Frag) (C : Addr) : Sp := fun vs H Q E => ∃ (v : V) (n : Nest), vs = [v] ∧ NestAt K H n v ∧ (okN n = true → ∀ (t : Addr) (H' : Hp), H t = none → H' t = some (.tup ((rowN n 0).map V.int)) → Same H H' → Q (.ref t) H') ∧ (okN n = false → ∀ H', Same H H' → E (.ref C) none H')
abbrev ns_seen : List Str := ["nest"]
theorem sc_seen : FnScope ns_seen ["nest"] (defScope s_seen) := ⟨rfl, rfl, rfl, by decide +kernel, rfl, by decide +kernel, by decide +kernel⟩
theorem ok_seen {C : Addr} (D : Def K mg "seen" s_seen ["nest"]) (T : Txt mg) (h_must_be_nest : Has P w K mg base (CXV P w) 3 "must_be_nest" ["thing"] (spMust K C)) (h_order_of : Has P w K mg base CX0 62 "order_of" ["nest"] (spOrderOf K 60)) : Has P w K mg base (CXV P w) 63 "seen" ["nest"] (spSeen K C) := by
  refine D.okV sc_seen (fun vs H Q E h => ?_) (fun f cdv A outer s H vs Q E hr h => ?_)
  · obtain ⟨v, n, rfl, _⟩ := h; rfl
  · obtain ⟨v, n, rfl, hN, q, qE⟩ := h
    refine go_c (ps_expr (pe_has h_must_be_nest (hr.mono (by first | decide | omega)) (by rfl) passV (pa_cons (pv 0) pa_nil))) ?_
    intro t0'
    refine go_1 (ps_ret (pe_has h_order_of hr (by rfl) pass0 (pa_cons (pv 0) pa_nil))) ?_
    intro t1'
    refine ⟨_, rfl, v, n, rfl, hN, fun ho H1 s1 => ?_, qE⟩
    obtain ⟨h1, h2⟩ := okN_valid ho
    have h3 := depth_words hN
    exact ⟨_, rfl, v, n, none, rfl, hN.mono s1, h1, by omega, h2, fun t H' nt et st => q ho t H' (s1.free nt) et (s1.trans st)⟩
def spEither (K : PySem.W.Frag) (tp : Addr) (tq : Str) : Sp := fun vs H Q _ => ∃ (a : Addr) (ord : List Int), vs = [.ref a] ∧ SqT K H a (ord.map V.int) ∧ IsOrd ord ∧ 1 ≤ ord.length ∧ ord.length ≤ 60 ∧ H tp = some (.lam tq) ∧ ∀ H', Same H H' → Q (.bl true) H'
abbrev ns_law_either : List Str := ["order", "nest"]
theorem sc_law_either : FnScope ns_law_either ["order"] (defScope s_law_either) := ⟨rfl, rfl, rfl, by decide +kernel, rfl, by decide +kernel, by decide +kernel⟩
theorem ok_either {C tp : Addr} {tq : Str} (D : Def K mg "_law_either" s_law_either ["order"]) (T : Txt mg) (h_nest_of : Has P w K mg base CX0 64 "nest_of" ["order"] (spNestOf K 60)) (h_bar_of : Has P w K mg base CX0 4 "bar_of" ["order"] (spBarOf K tp tq)) (h_law_bar_good : Has P w K mg base CX0 1 "_law_bar_good" ["order", "bar"] (spBarGood K)) (h_seen : Has P w K mg base (CXV P w) 63 "seen" ["nest"] (spSeen K C)) :
    Has P w K mg base CX0 65 "_law_either" ["order"] (spEither K tp tq) := by
  refine D.ok sc_law_either (fun vs H Q E h => ?_) (fun f cdv A outer s H vs Q E hr h => ?_)
  · obtain ⟨a, ord, rfl, _⟩ := h; rfl
  · obtain ⟨a, ord, rfl, hT, hO, h1, hz, hp, q⟩ := h
    refine go_c (ps_set (i := 1) sc_law_either.nd rfl (Or.inl rfl) (pe_has h_nest_of hr (by rfl) pass0 (pa_cons (pv 0) pa_nil))) ?_
    intro t0'
    refine go_c (ps_if (pt_val (pe_callB call_isi (by rfl) T.b.isi boot_isi (pa_cons (pv 1) (pa_cons (pe_bltn (v := .ty "str") (by rfl) T.str boot_ty_str rfl) pa_nil)))) (pss_one (ps_ret (pe_and (pe_cmpR op_eq (pv 1) pe_str (nomark _)) (pe_one (pe_has h_law_bar_good (hr.mono (by first | decide | omega)) (by rfl) pass0 (pa_cons (pv 0) (pa_cons (pe_has h_bar_of (hr.mono (by first | decide | omega)) (by rfl) pass0 (pa_cons (pv 0) pa_nil)) pa_nil))))))) pss_nil) ?_
    intro t1'
    refine go_1 (ps_ret (pe_and (pe_cmpR (op_eqT hr.units0) (pe_has h_seen (hr.mono (by first | decide | omega)) (by rfl) pass0V (pa_cons (pv 1) pa_nil)) (pv 0) (nomark _)) (pe_one (pe_cmpR op_isN (pe_has h_bar_of (hr.mono (by first | decide | omega)) (by rfl) pass0 (pa_cons (pv 0) pa_nil)) pe_non (nomark _))))) ?_
    intro t2'
    refine ⟨_, rfl, a, ord, rfl, hT, hO, h1, hz, hz, fun v H1 ht s1 => ?_⟩
    refine gname_go ?_
    dsimp only [List.set]
    have hT1 := s1.sqt hT
    have hp1 := s1 _ _ hp
    cases hn : nestF 60 ord with
    | none =>
      rw [hn] at ht
      have ht : v = .str barS := ht
      subst ht
      have hbar := (nest_or_bar hO h1 hz).mp hn
      refine ⟨_, rfl, _, _, _, _, rfl, .str _, kit_same _ _, _, rfl, iteT ?_⟩
      refine ⟨_, rfl, rfl, _, rfl, ?_⟩
      rw [show decide (V.str barS = V.str (Str.ofString "barred")) = true from decide_eq_true rfl]
      refine iteT ⟨_, rfl, _, rfl, a, ord, rfl, hT1, h1, by omega, hp1, fun i j k l b H2 hb eb s2 => ?_, fun H2 no s2 => absurd hbar (no_bar_told no)⟩
      exact ⟨a, b, ord, i, j, k, l, rfl, s2.sqt hT1, hz, eb, hb.bar, fun H3 s3 => q _ (s1.trans (s2.trans s3))⟩
    | some n =>
      rw [hn] at ht
      have ht : NestAt K H1 n v := ht
      obtain ⟨hr0, hv, hf⟩ := nest_told 60 ord n hO h1 hz hn
      have hwn : words n = ord.length := by rw [← hr0, row_len 0 hv]
      have hok : okN n = true := by unfold okN; rw [hv, hwn, decide_eq_true hz]; rfl
      have nb : ¬ HasBar ord := fun z => by rw [(nest_or_bar hO h1 hz).mpr z] at hn; cases hn
      have ty : ∃ t, TyOf K H1 v t ∧ PySem.W.kitOne K t (.type "str") = some false := by
        cases n with
        | word =>
          have e : v = .non := ht
          subst e
          exact ⟨_, .non, kit_not K rfl rfl (by decide +kernel)⟩
        | bad => exact absurd hv (by simp [valid])
        | knot k ps =>
          obtain ⟨a', b', us, rfl, ea, _⟩ := ht
          exact ⟨_, .tup ea, kit_not K rfl rfl (by decide +kernel)⟩
      obtain ⟨t, ty1, ty2⟩ := ty
      refine ⟨_, rfl, _, _, _, _, rfl, ty1, ty2, _, rfl, iteF ?_⟩
      refine ⟨_, rfl, v, n, rfl, ht, fun _ t2 H2 nt et s2 => ?_, fun z => by rw [hok] at z; cases z⟩
      rw [hr0] at et
      refine ⟨_, rfl, t2, a, _, _, rfl, rfl, SqT.of et, s2.sqt hT1, by simp [flatV], by simp [flatV], _, rfl, ?_⟩
      rw [eqVs_refl_ints]
      refine iteT ⟨_, rfl, a, ord, rfl, s2.sqt hT1, h1, by omega, s2 _ _ hp1, fun i j k l b H3 hb eb s3 => absurd (bar_told hb.bar) nb, fun H3 no s3 => ⟨rfl, q _ (s1.trans (s2.trans s3))⟩⟩
abbrev ns_left_parts : List Str := ["nest", "staying", "parts", "part", "share"]
theorem sc_left_parts : FnScope ns_left_parts ["nest", "staying"] (defScope s_left_parts) := ⟨rfl, rfl, rfl, by decide +kernel, rfl, by decide +kernel, by decide +kernel⟩
theorem ok_leftparts (D : Def K mg "left_parts" s_left_parts ["nest", "staying"]) (T : Txt mg) (h_count : ∀ d, Has P w K mg base CX0 d "count_words" ["nest"] (spCount K words d)) (DS : Def K mg "shared_out" s_shared_out ["nest", "things"]) (h_knot_of : Has P w K mg base CX0 2 "knot_of" ["kind", "nests"] (spKnotOf K)) : ∀ d, Has P w K mg base CX0 (d + 2) "left_parts" ["nest", "staying"] (spLeftP K d)
  | 0 => D.rec0 fun vs H Q E ⟨_, _, _, _, _, _, _, _, h, _⟩ => absurd h (Nat.not_lt_zero _)
  | d + 1 => by
    have h_left_parts := ok_leftparts D T h_count DS h_knot_of d
    have h_shared_out := ok_shared (P := P) (w := w) (base := base) DS (d + 1) (h_count (d + 1))
    refine D.ok sc_left_parts (fun vs H Q E h => ?_) (fun f cdv A outer s H vs Q E hr h => ?_)
    · obtain ⟨v, l, n, o, bs, rfl, _⟩ := h; rfl
    · obtain ⟨v, l, n, o, bs, rfl, hN, hv, hd, hw, hl, hbl, q⟩ := h
      refine go_c (ps_if (pt_cmpR op_isN (pv 0) pe_non (nomark _)) (pss_one (ps_ret (pe_ifExp (pt_val (pe_ix ix_list (pv 1) pe_int (fun _ _ => rfl))) (pe_lst (pa_cons pe_non pa_nil)) (pe_lst pa_nil)))) pss_nil) ?_
      intro t0'
      refine go_c (ps_set (i := 2) sc_left_parts.nd rfl (Or.inl rfl) (pe_lst pa_nil)) ?_
      intro t1'
      refine go_c (ps_for PassesOwn.never rfl (pi_zipTL rfl T.zip (pa_cons (pe_ix ix_tup (pv 0) pe_int (fun _ _ => rfl)) (pa_cons (pe_has h_shared_out hr (by rfl) pass0 (pa_cons (pv 0) (pa_cons (pv 1) pa_nil))) pa_nil))) (pg_tup rfl (pgs_cons (pg_name (i := 3) sc_left_parts.nd rfl (Or.inl rfl)) (pgs_cons (pg_name (i := 4) sc_left_parts.nd rfl (Or.inl rfl)) pgs_nil))) (pss_one (ps_expr (pe_bm PySem.F.plainAttrs_list PySem.F.slot_list_extend PySem.F.type_list_extend mt_extend (pv 2) (pa_cons (pe_has h_left_parts hr (by rfl) pass0 (pa_cons (pv 3) (pa_cons (pv 4) pa_nil))) pa_nil))))) ?_
      intro t2'
      refine go_c (ps_if (pt_cmpR op_lt (pe_callB call_len_seq (by rfl) T.b.len PySem.boot_len (pa_cons (pv 2) pa_nil)) pe_int (nomark _)) (pss_one (ps_ret (pv 2))) pss_nil) ?_
      intro t3'
      refine go_1 (ps_ret (pe_lst (pa_cons (pe_has h_knot_of (hr.mono (by first | decide | omega)) (by rfl) pass0 (pa_cons (pe_ix ix_tup (pv 0) pe_int (fun _ _ => rfl)) (pa_cons (pv 2) pa_nil))) pa_nil))) ?_
      intro t4'
      cases n with
      | bad => simp [valid] at hv
      | word =>
        have e : v = .non := hN
        subst e
        rw [words] at hbl
        match bs, hbl with
        | [b], _ =>
          refine ⟨_, rfl, rfl, _, rfl, iteT ⟨_, rfl, l, _, 0, _, rfl, rfl, hl, rfl, _, rfl, ?_⟩⟩
          cases b with
          | true => exact iteT ⟨(by show 1 ≤ sizeLine; decide), fun p hp => q p _ _ hp upd_same (NestsAt.one (show NestAt K _ .word .non from rfl)) (same_upd hp)⟩
          | false => exact iteF ⟨(by show 0 ≤ sizeLine; omega), fun p hp => q p _ _ hp upd_same rfl (same_upd hp)⟩
      | knot k ps =>
        have hN' := hN
        obtain ⟨a, b, us, rfl, ea, eb, hu2, hu3, hps⟩ := hN
        have hpl := hps.len
        have hvp : validL k ps = true := by simp only [valid, Bool.and_eq_true] at hv; exact hv.2
        simp only [depthN] at hd
        rw [words] at hw hbl
        refine ⟨_, rfl, rfl, _, rfl, iteF ⟨(by show 0 ≤ sizeLine; omega), fun pp hpp => ?_⟩⟩
        have s1 := same_upd (o := .lst []) hpp
        have sU : ∀ (G : Hp) (o : HO), Same H G → Same H (upd G pp o) := fun G o h b ob e => by rw [upd_ne (ne_of_none e hpp)]; exact h b ob e
        have ep1 : (upd H pp (.lst [])) pp = some (.lst []) := upd_same
        generalize upd H pp (.lst []) = H1 at s1 ep1 ⊢
        refine ⟨_, rfl, a, _, 1, _, rfl, rfl, SqT.of (s1 _ _ ea), rfl, _, rfl, _, rfl, a, l, k, ps, bs.map V.bl, rfl, hN'.mono s1, hvp, by omega, s1.seq hl, by rw [List.length_map]; omega, by rw [List.length_map]; omega, fun sh rs H2 nsh esh hsh s2 => ?_⟩
        have hrl : rs.length = us.length := by rw [hsh.len, shareL_len, hpl]
        refine ⟨b, sh, us, rs.map V.ref, rfl, (s1.trans s2) _ _ eb, esh, ?_⟩
        refine for_zipL (a := b) (b := sh) (xs := us) (ys := rs.map V.ref) (by rw [List.length_map]; omega) (fun i σ Hx => ∃ (acc : List V) (v3 v4 : Option V), σ = [some (.ref a), some (.ref l), some (.ref pp), v3, v4] ∧ Same H Hx ∧ Hx sh = some (.lst (rs.map V.ref)) ∧ VLs Hx rs (shareL ps (bs.map V.bl)) ∧ Hx pp = some (.lst acc) ∧ NestsAt K Hx (leftPs (ps.take i) bs) acc ∧ i ≤ us.length)
          ⟨[], none, none, rfl, s1.trans s2, esh, hsh, s2 _ _ ep1, rfl, Nat.zero_le _⟩ (fun i σ Hx _ ⟨_, _, _, _, sx, e1, _⟩ => ⟨sx _ _ eb, e1⟩) ?_ ?_
        · rintro i x y σ Hx tp hx hy ⟨acc, v3, v4, rfl, sx, eS, hL, eP, hA, hiu⟩ htp
          obtain ⟨r, hr', rfl⟩ := refs_get hy
          obtain ⟨nn, hnn, hnv⟩ := hps.get hx
          obtain ⟨xs, hxs, er⟩ := hL.get hr'
          have hil : i < us.length := (List.getElem?_eq_some_iff.mp hx).1
          have hdn := depthL_get hnn
          have hvn := validL_get hvp hnn
          have hwn := wordsL_at hnn
          have hah := ahead_le ps (i + 1)
          rw [ahead_succ hnn] at hah
          rw [shareL_get hnn] at hxs
          have hxs : (List.drop (ahead ps i) (bs.map V.bl)).take (words nn) = xs := by simpa using hxs
          rw [← List.map_drop, ← List.map_take] at hxs
          subst hxs
          have st := same_upd (o := .tup [x, .ref r]) htp
          have er1 := st _ _ er
          have eP1 := st _ _ eP
          have hpw := wordsL_pos hps
          have hal := hA.len
          have hll : (leftPs (ps.take i) bs).length ≤ 60 := by
            have := leftPs_len (ps.take i) bs
            rw [List.length_take] at this
            omega
          refine ⟨tp, _, rfl, SqT.of upd_same, rfl, _, _, rfl, _, _, rfl, rfl, ?_⟩
          generalize upd Hx tp (.tup [x, .ref r]) = H3 at st er1 eP1 ⊢
          have S3 := sx.trans st
          refine ⟨_, rfl, .inl ⟨rfl, _, SqL.of eP1⟩, _, rfl, _, rfl, x, r, nn, some k, (bs.drop (ahead ps i)).take (words nn), rfl, hnv.mono S3, hvn, by omega, by omega, SqL.of er1, (by rw [List.length_take, List.length_drop]; omega), fun p us' H4 np ep hN4 s4 => ?_⟩
          have eP4 := s4 _ _ eP1
          have hl4 := hN4.len
          have hl1 := leftP_le nn ((bs.drop (ahead ps i)).take (words nn))
          have npp : p ≠ pp := fun z => by rw [z, eP1] at np; cases np
          refine ⟨pp, p, _, _, rfl, rfl, eP4, ep, line_mil (by omega), ?_⟩
          have S4 := S3.trans s4
          have nsh : sh ≠ pp := fun z => by
            have := esh
            rw [z, s2 _ _ ep1] at this
            cases rs with
            | nil => simp at hr'
            | cons r0 rs0 => simp at this
          have nrs : pp ∉ rs := fun hm => by
            obtain ⟨j, hj, e⟩ := List.getElem_of_mem hm
            obtain ⟨ys, hys, ey⟩ := hsh.get (i := j) (p := pp) (by rw [List.getElem?_eq_getElem hj, e])
            rw [s2 _ _ ep1] at ey
            have hjn : j < ps.length := by omega
            have := shareL_get (xs := bs.map V.bl) (List.getElem?_eq_getElem hjn)
            rw [this] at hys
            have hys := (Option.some.inj hys).symm
            have h0 : ys = [] := by simpa using (HO.lst.inj (Option.some.inj ey)).symm
            have hwj := ahead_le ps (j + 1)
            rw [ahead_succ (List.getElem?_eq_getElem hjn)] at hwj
            have hpos : 1 ≤ words ps[j] := by
              have hju : j < us.length := by omega
              obtain ⟨m, hm, hmv⟩ := hps.get (i := j) (v := us[j]) (List.getElem?_eq_getElem hju)
              rw [List.getElem?_eq_getElem hjn] at hm
              cases hm
              exact words_pos hmv
            have hlen : ys.length = words ps[j] := by
              rw [hys, List.length_take, List.length_drop, List.length_map]
              omega
            rw [h0] at hlen
            simp at hlen
            omega
          refine ⟨acc ++ us', _, _, rfl, sU _ _ S4, by rw [upd_ne nsh]; exact (st.trans s4) _ _ eS, VLs.upd nrs ((hL.mono st).mono s4), upd_same, ?_, by omega⟩
          rw [leftPs_take hnn]
          exact NestsAt.updL eP4 (NestsAt.app ((hA.mono st).mono s4) hN4)
        · rintro σ Hx ⟨acc, v3, v4, rfl, sx, eS, hL, eP, hA, hiu⟩
          rw [← hpl, List.take_length] at hA
          have hal := hA.len
          have hlv := leftPs_valid ps k bs hvp hbl
          have hcl := List.count_le_length (a := true) (l := bs)
          have hll := leftPs_len ps bs
          refine ⟨_, rfl, pp, _, rfl, .inl (SqL.of eP), _, _, rfl, rfl, _, rfl, ?_⟩
          by_cases h2 : acc.length < 2
          · rw [decide_eq_true (by omega)]
            refine iteT ⟨_, rfl, q pp acc Hx hpp eP ?_ sx⟩
            rw [leftP, closeK, if_pos (by omega)]
            exact hA
          · rw [decide_eq_false (by omega)]
            refine iteF ⟨_, rfl, a, _, 0, _, rfl, rfl, SqT.of (sx _ _ ea), rfl, _, rfl, pp, k, leftPs ps bs, acc, rfl, eP, hA, hlv.1, by omega, by omega, fun v H5 hv5 s5 => ⟨(by show 1 ≤ sizeLine; decide), fun p hp => ?_⟩⟩
            refine q p [v] _ ((sx.trans s5).free hp) upd_same ?_ (sx.trans (s5.trans (same_upd hp)))
            rw [leftP, closeK, if_neg (by omega)]
            exact NestsAt.one (hv5.mono (same_upd hp))
def spLeftNest (K : PySem.W.Frag) (C C2 : Addr) : Sp := fun vs H Q E => ∃ (v : V) (n : Nest) (l : Addr) (xs : List V), vs = [v, .ref l] ∧ NestAt K H n v ∧ SqL K H l xs ∧ xs.length ≤ 1000 ∧ (∀ x ∈ xs, Plain K H x) ∧
  (okN n = true → ∀ ws : List Int, xs = ws.map V.int → ws ≠ [] → ws.Nodup → (∀ w ∈ ws, 0 ≤ w ∧ w < (words n : Int)) → ∀ (m : Nest) (v' : V) (H' : Hp), leftP n (marks ws (words n)) = [m] → NestAt K H' m v' → Same H H' → Q v' H') ∧
  (okN n = false → ∀ H', Same H H' → E (.ref C) none H') ∧ (okN n = true → xs = [] ∨ diffG (words n : Int) [] xs = false → ∀ H', Same H H' → E (.ref C2) none H')
abbrev ns_left_nest : List Str := ["nest", "words", "many"]
theorem sc_left_nest : FnScope ns_left_nest ["nest", "words"] (defScope s_left_nest) := ⟨rfl, rfl, rfl, by decide +kernel, rfl, by decide +kernel, by decide +kernel⟩
def cp_left_nest_0 (s : Stmt) : Scope := match (defBody s).getD 3 (.Pass ⟨0, 0, 0, 0⟩) with
  | .Return (some (.Subscript (.Call _ [_, (.ListComp _ _ sc _)] _ _) _ _)) _ => sc
  | _ => defScope s
theorem cs_left_nest_0 : CScope (defScope s_left_nest) (cp_left_nest_0 s_left_nest) "word" ["word", "words"] ns_left_nest [1] := cs_of (by decide +kernel)
theorem ok_leftnest {C C2 : Addr} (D : Def K mg "left_nest" s_left_nest ["nest", "words"]) (T : Txt mg) (h_must_be_nest : Has P w K mg base (CXV P w) 3 "must_be_nest" ["thing"] (spMust K C)) (h_count_words : Has P w K mg base CX0 60 "count_words" ["nest"] (spCount K words 60)) (h_must_be_words : Has P w K mg base (CXV P w) 3 "must_be_words" ["words", "many"] (spMbw K C2)) (h_left_parts : Has P w K mg base CX0 62 "left_parts" ["nest", "staying"] (spLeftP K 60)) :
    Has P w K mg base (CXV P w) 63 "left_nest" ["nest", "words"] (spLeftNest K C C2) := by
  refine D.okV sc_left_nest (fun vs H Q E h => ?_) (fun f cdv A outer s H vs Q E hr h => ?_)
  · obtain ⟨v, n, l, xs, rfl, _⟩ := h; rfl
  · obtain ⟨v, n, l, xs, rfl, hN, hl, hz, hp, q, qE, qE2⟩ := h
    refine go_c (ps_expr (pe_has h_must_be_nest (hr.mono (by first | decide | omega)) (by rfl) passV (pa_cons (pv 0) pa_nil))) ?_
    intro t0'
    refine go_c (ps_set (i := 2) sc_left_nest.nd rfl (Or.inl rfl) (pe_has h_count_words (hr.mono (by first | decide | omega)) (by rfl) pass0 (pa_cons (pv 0) pa_nil))) ?_
    intro t1'
    refine go_c (ps_expr (pe_has h_must_be_words (hr.mono (by first | decide | omega)) (by rfl) passV (pa_cons (pv 1) (pa_cons (pv 2) pa_nil)))) ?_
    intro t2'
    refine go_1 (ps_ret (pe_ix ix_list (pe_has h_left_parts hr (by rfl) pass0 (pa_cons (pv 0) (pa_cons (pe_comp rfl cs_left_nest_0 rfl (pi_range1 rfl T.b.rng (pa_cons (pv 2) pa_nil)) (fun cl C fp s H => pg_name (i := 0) cs_left_nest_0.nd rfl (Or.inl rfl)) (fun cl C fp s H => pts_nil) (fun cl C fp s H => (pe_cmpR (r := rIn K false) op_in_seq (pv 0) (pv 1) rfl))) pa_nil))) pe_int (fun _ _ => rfl))) ?_
    intro t3'
    refine ⟨_, rfl, v, n, rfl, hN, fun ho H1 s1 => ?_, qE⟩
    obtain ⟨h1, h2⟩ := okN_valid ho
    have h3 := depth_words hN
    refine ⟨_, rfl, v, n, none, rfl, hN.mono s1, h1, by omega, fun H2 s2 => ?_⟩
    have s12 := s1.trans s2
    refine ⟨_, rfl, _, rfl, l, xs, (words n : Nat), rfl, s12.seq hl, hz, fun x hx => Plain.mono s12 (hp x hx), fun hne hdv H3 s3 => ?_, fun hb H3 s3 => qE2 ho hb H3 (s12.trans s3)⟩
    obtain ⟨ws, rfl, nd, rg, _⟩ := diffG_iff.mp hdv
    have hws : ws ≠ [] := fun z => hne (by rw [z]; rfl)
    have s13 := s12.trans s3
    refine ⟨_, rfl, _, rfl, (words n : Int), rfl, ?_, ?_, fun D hD => ?_⟩
    · omega
    · omega
    rw [show ((words n : Nat) : Int).toNat = words n by omega]
    have sD : ∀ acc, Same H3 (upd H3 D (.lst acc)) := fun acc => same_upd hD
    refine comp_range (fun i => V.bl (decide ((i : Int) ∈ ws))) (line1000 (by omega)) (fun i acc R hi hR => ?_) ?_
    · refine ⟨_, rfl, _, rfl, l, _, rfl, .inl ((s13.trans (sD acc)).seq hl), rfl, (by simp [flatV]), ?_⟩
      have e : inV (V.int (0 + (i : Int))) (ws.map V.int) = decide ((i : Int) ∈ ws) := by
        rw [inV_ints, Int.zero_add]
      rw [e]
      exact hR
    · have em : (List.range (words n)).map (fun (i : Nat) => V.bl (decide ((i : Int) ∈ ws))) = (marks ws (words n)).map V.bl := by unfold marks; rw [List.map_map]; rfl
      rw [em]
      have s14 := s13.trans (sD ((marks ws (words n)).map V.bl))
      obtain ⟨m, hm, hmv, hmw, hmr⟩ := left_nest h1 nd rg hws
      refine ⟨v, D, n, none, marks ws (words n), rfl, hN.mono s14, h1, by omega, h2, SqL.of upd_same, marks_len _ _, fun p us H5 np ep hN5 s5 => ?_⟩
      rw [hm] at hN5
      obtain ⟨u, ur, rfl, hu, hur⟩ := hN5
      have hur : ur = [] := hur
      subst hur
      refine ⟨p, _, 0, u, rfl, rfl, SqL.of ep, rfl, ?_⟩
      exact q ho ws rfl hws nd rg m u H5 hm hu (s14.trans s5)
def spGone (K : PySem.W.Frag) : Sp := fun vs H Q _ => ∃ (l m : Addr) (ord : List Int) (wd : Int), vs = [.ref l, .int wd, .ref m] ∧ SqL K H l (ord.map V.int) ∧ SqL K H m ((butF ord.length wd).map V.int) ∧ IsOrd ord ∧ 2 ≤ ord.length ∧ ord.length ≤ 60 ∧ 0 ≤ wd ∧ wd < (ord.length : Int) ∧ ∀ H', Same H H' → Q (.bl true) H'
abbrev ns_law_gone : List Str := ["order", "word", "kept", "elder", "left"]
theorem sc_law_gone : FnScope ns_law_gone ["order", "word", "kept"] (defScope s_law_gone) := ⟨rfl, rfl, rfl, by decide +kernel, rfl, by decide +kernel, by decide +kernel⟩
theorem ok_gone {C C1 C2 C3 : Addr} (D : Def K mg "_law_gone" s_law_gone ["order", "word", "kept"]) (T : Txt mg) (h_nest_of : Has P w K mg base CX0 64 "nest_of" ["order"] (spNestOf K 60)) (h_make_order : Has P w K mg base (CXV P w) 3 "make_order" ["numbers"] (spMake K C)) (h_law_without : Has P w K mg base CX0 1 "_law_without" ["order", "word"] (spWithout K))
    (h_left_of : Has P w K mg base (CXV P w) 4 "left_of" ["order", "words"] (spLeft K C1)) (h_left_nest : Has P w K mg base (CXV P w) 63 "left_nest" ["nest", "words"] (spLeftNest K C2 C3)) : Has P w K mg base CX0 65 "_law_gone" ["order", "word", "kept"] (spGone K) := by
  refine D.ok sc_law_gone (fun vs H Q E h => ?_) (fun f cdv A outer s H vs Q E hr h => ?_)
  · obtain ⟨l, m, ord, wd, rfl, _⟩ := h; rfl
  · obtain ⟨l, m, ord, wd, rfl, hl, hm, hO, h2, hz, w0, w1, q⟩ := h
    refine go_c (ps_set (i := 3) sc_law_gone.nd rfl (Or.inl rfl) (pe_has h_nest_of hr (by rfl) pass0 (pa_cons (pe_has h_make_order (hr.mono (by first | decide | omega)) (by rfl) pass0V (pa_cons (pv 0) pa_nil)) pa_nil))) ?_
    intro t0'
    refine go_c (ps_set (i := 4) sc_law_gone.nd rfl (Or.inl rfl) (pe_has h_make_order (hr.mono (by first | decide | omega)) (by rfl) pass0V (pa_cons (pe_has h_law_without (hr.mono (by first | decide | omega)) (by rfl) pass0 (pa_cons (pv 0) (pa_cons (pv 1) pa_nil))) pa_nil))) ?_
    intro t1'
    refine go_c (ps_if (pt_cmpR (op_neTI hr.units0) (pe_has h_left_of (hr.mono (by first | decide | omega)) (by rfl) pass0V (pa_cons (pe_has h_make_order (hr.mono (by first | decide | omega)) (by rfl) pass0V (pa_cons (pv 0) pa_nil)) (pa_cons (pv 2) pa_nil))) (pv 4) (nomark _)) (pss_one (ps_ret pe_bl)) pss_nil) ?_
    intro t2'
    refine go_c (ps_if (pt_val (pe_callB call_isi (by rfl) T.b.isi boot_isi (pa_cons (pv 3) (pa_cons (pe_bltn (v := .ty "str") (by rfl) T.str boot_ty_str rfl) pa_nil)))) (pss_one (ps_ret pe_bl)) pss_nil) ?_
    intro t3'
    refine go_1 (ps_ret (pe_and (pe_cmpR (op_eqN (units180 hr)) (pe_has h_left_nest (hr.mono (by first | decide | omega)) (by rfl) pass0V (pa_cons (pv 3) (pa_cons (pv 2) pa_nil))) (pe_has h_nest_of hr (by rfl) pass0 (pa_cons (pv 4) pa_nil)) (nomark _)) (pe_one (pe_not (pe_callB call_isi (by rfl) T.b.isi boot_isi (pa_cons (pe_has h_nest_of hr (by rfl) pass0 (pa_cons (pv 4) pa_nil)) (pa_cons (pe_bltn (v := .ty "str") (by rfl) T.str boot_ty_str rfl) pa_nil))))))) ?_
    intro t4'
    have hln : (ord.map V.int).length = ord.length := List.length_map ..
    have hG := good_ord hO (by omega) hz
    obtain ⟨dO, dl⟩ := drop_ord hO w0 w1
    have hd0 := left_drop hO (but_nodup ord.length wd) (fun v => mem_but) w0
    have hG2 := good_ord dO (by omega) (by omega)
    have hbl := but_len (n := ord.length) w0 w1
    have bne : butF ord.length wd ≠ [] := fun z => by rw [z] at hbl; simp at hbl; omega
    have brg : ∀ v ∈ butF ord.length wd, 0 ≤ v ∧ v < (ord.length : Int) := fun v hv => (mem_but.mp hv).1
    have bdf : ¬ ((butF ord.length wd).map V.int = [] ∨ diffG (ord.length : Int) [] ((butF ord.length wd).map V.int) = false) := by
      rintro (z | z)
      · exact bne (by simpa using z)
      · rw [diff_ok (but_nodup _ _) brg] at z; cases z
    refine ⟨_, rfl, l, _, rfl, hl, by omega, (fun x hx => plain_ints K _ _ x hx), fun _ t1 H1 n1 e1 s1 => ?_, fun z => absurd hG z⟩
    refine ⟨t1, ord, rfl, SqT.of e1, hO, by omega, hz, hz, fun v H2 ht s2 => ?_⟩
    refine gname_go ?_
    dsimp only [List.set]
    have S2 := s1.trans s2
    refine ⟨_, rfl, _, rfl, l, ord, wd, rfl, S2.seq hl, by omega, fun r H3 n3 e3 s3 => ?_⟩
    have S3 := S2.trans s3
    refine ⟨r, _, rfl, SqL.of e3, by rw [List.length_map]; omega, (fun x hx => plain_ints K _ _ x hx), fun _ t4 H4 n4 e4 s4 => ?_, fun z => absurd hG2 z⟩
    refine gname_go ?_
    dsimp only [List.set]
    have S4 := S3.trans s4
    have hbm : ((butF ord.length wd).map V.int).length = (butF ord.length wd).length := List.length_map ..
    refine ⟨_, rfl, l, _, rfl, S4.seq hl, by omega, (fun x hx => plain_ints K _ _ x hx), fun _ t5 H5 n5 e5 s5 => ?_, fun z => absurd hG z⟩
    refine ⟨_, rfl, t5, m, ord, _, rfl, SqT.of e5, by omega, (S4.trans s5).seq hm, by omega, (fun x hx => plain_ints K _ _ x hx), fun ws' ew _ _ _ _ t6 H6 n6 e6 s6 => ?_, .inr (fun _ => by omega), fun z => absurd z bdf⟩
    rw [← ints_inj ew, hd0] at e6
    have s46 := s5.trans s6
    have S6 := S4.trans s46
    refine ⟨_, rfl, t6, t4, _, _, rfl, rfl, SqT.of e6, SqT.of (s46 _ _ e4), _, rfl, ?_⟩
    rw [decide_eq_true rfl]
    refine iteF ?_
    cases hn : nestF 60 ord with
    | none =>
      rw [hn] at ht
      obtain rfl : v = .str barS := ht
      exact ⟨_, rfl, _, _, _, _, rfl, .str _, kit_same _ _, _, rfl, iteT (q _ S6)⟩
    | some n =>
      rw [hn] at ht
      have ht : NestAt K H2 n v := ht
      obtain ⟨hr0, hv, hf⟩ := nest_told 60 ord n hO (by omega) hz hn
      have hwn : words n = ord.length := by rw [← hr0, row_len 0 hv]
      have hok : okN n = true := by unfold okN; rw [hv, hwn, decide_eq_true hz]; rfl
      have ht6 := ht.mono (s3.trans (s4.trans s46))
      obtain ⟨t, ty1, ty2⟩ := ht6.notStr hv
      refine ⟨_, rfl, _, _, _, _, rfl, ty1, ty2, _, rfl, iteF ?_⟩
      obtain ⟨m0, hm0, hmv, hmw, hmr⟩ := left_nest hv (but_nodup ord.length wd) (by rw [hwn]; exact brg) bne
      refine ⟨_, rfl, _, rfl, v, n, m, _, rfl, ht6, S6.seq hm, by omega, (fun x hx => plain_ints K _ _ x hx), fun _ ws2 ew2 _ _ _ m' v' H7 hm' hv' s7 => ?_, (fun z => by rw [hok] at z; cases z), fun _ z => absurd (by rw [hwn] at z; exact z) bdf⟩
      rw [← ints_inj ew2, hm0] at hm'
      obtain rfl : m0 = m' := by simpa using hm'
      rw [hr0, hd0] at hmr
      have hfm := hv'.fit hmv
      have hdm := depth_words hv'
      have hnr := nest_row 60 m0 none hmv hfm (by omega)
      rw [hmr] at hnr
      have e47 := (s46.trans s7) _ _ e4
      refine ⟨_, rfl, t4, _, rfl, SqT.of e47, dO, by omega, by omega, by omega, fun v8 H8 ht8 s8 => ?_⟩
      rw [hnr] at ht8
      have ht8 : NestAt K H8 m0 v8 := ht8
      refine ⟨m0, none, hv'.mono s8, ht8, hmv, by omega, _, rfl, iteT ?_⟩
      refine ⟨_, rfl, t4, _, rfl, SqT.of (s8 _ _ e47), dO, by omega, by omega, by omega, fun v9 H9 ht9 s9 => ?_⟩
      rw [hnr] at ht9
      have ht9 : NestAt K H9 m0 v9 := ht9
      obtain ⟨t', ty3, ty4⟩ := ht9.notStr hmv
      exact ⟨_, _, _, _, rfl, ty3, ty4, _, rfl, q _ (S6.trans (s7.trans (s8.trans s9)))⟩
def spLaw (K : PySem.W.Frag) (tp : Addr) (tq : Str) : Sp := spLawL K tp tq
abbrev ns_law : List Str := ["script", "order", "cell", "word", "elder", "here"]
theorem sc_law : FnScope ns_law ["script"] (defScope s_law) := ⟨rfl, rfl, rfl, by decide +kernel, rfl, by decide +kernel, by decide +kernel⟩
def cp_law_0 (s : Stmt) : Scope := match (defBody s).getD 1 (.Pass ⟨0, 0, 0, 0⟩) with
  | .For _ _ [(.If _ [_, (.If (.UnaryOp _ (.Call _ [_, _, (.ListComp _ _ sc _)] _ _) _) _ _ _), _] _ _)] _ _ => sc
  | _ => defScope s
theorem cs_law_0 : CScope (defScope s_law) (cp_law_0 s_law) "number" ["number", "word"] ns_law [3] := cs_of (by decide +kernel)
def cp_law_1 (s : Stmt) : Scope := match (defBody s).getD 1 (.Pass ⟨0, 0, 0, 0⟩) with
  | .For _ _ [(.If _ _ [_, _, _, _, (.If (.Compare (.Call _ [_, (.ListComp _ _ sc _)] _ _) _ _ _) _ _ _)] _)] _ _ => sc
  | _ => defScope s
theorem cs_law_1 : CScope (defScope s_law) (cp_law_1 s_law) "number" ["number", "word"] ns_law [3] := cs_of (by decide +kernel)
theorem ok_law {C C1 tp : Addr} {tq : Str} {f : Addr} {fd : FuncData} (F : Fun K "law" "law" s_law f fd) (T : Txt mg) (h_make_order : Has P w K mg base (CXV P w) 3 "make_order" ["numbers"] (spMake K C)) (h_law_without : Has P w K mg base CX0 1 "_law_without" ["order", "word"] (spWithout K)) (h_law_mixed : Has P w K mg base CX0 1 "_law_mixed" ["cell", "k"] spMixed)
    (h_left_of : Has P w K mg base (CXV P w) 4 "left_of" ["order", "words"] (spLeft K C1)) (h_law_gone : Has P w K mg base CX0 65 "_law_gone" ["order", "word", "kept"] (spGone K)) (h_law_next : Has P w K mg base CX0 2 "_law_next" ["order", "cell"] (spNext K)) (h_law_either : Has P w K mg base CX0 65 "_law_either" ["order"] (spEither K tp tq)) : FnOk P w K mg base CX0 66 f fd ["script"] (spLaw K tp tq) := by
  refine F.ok sc_law (fun vs H Q E h => ?_) (fun cdv A outer s H vs Q E hr h => ?_)
  · obtain ⟨a, ns, rfl, _⟩ := h; rfl
  · obtain ⟨a, ns, rfl, hS, hz, _, hp, q⟩ := h
    refine go_c (ps_set (i := 1) sc_law.nd rfl (Or.inl rfl) (pe_lst (pa_cons pe_int pa_nil))) ?_
    intro t0'
    refine go_c (ps_for PassesOwn.never rfl (pi_list (pe_slice sl_list (pv 0) (po_some pe_int) (po_some pe_int))) (pg_name (i := 2) sc_law.nd rfl (Or.inl rfl)) (pss_one (ps_if (PW.pt (pw_or (pt_cmpR op_gt (pe_callB call_len_seq (by rfl) T.b.len PySem.boot_len (pa_cons (pv 1) pa_nil)) pe_int (nomark _)) (pw_or1 (PW.pt (pw_and (pt_cmpR op_eq (pe_op op_mod (pe_has h_law_mixed (hr.mono (by first | decide | omega)) (by rfl) pass0 (pa_cons (pv 2) (pa_cons pe_int pa_nil))) pe_int) pe_int (nomark _)) (pw_and1 (pt_cmpR op_gt (pe_callB call_len_seq (by rfl) T.b.len PySem.boot_len (pa_cons (pv 1) pa_nil)) pe_int (nomark _)))))))) (pss_cons (ps_set (i := 3) sc_law.nd rfl (Or.inr rfl) (pe_op op_mod (pe_has h_law_mixed (hr.mono (by first | decide | omega)) (by rfl) pass0 (pa_cons (pv 2) (pa_cons pe_int pa_nil))) (pe_callB call_len_seq (by rfl) T.b.len PySem.boot_len (pa_cons (pv 1) pa_nil))))
      (pss_cons (ps_if (pt_not (pt_val (pe_has h_law_gone hr (by rfl) pass0 (pa_cons (pv 1) (pa_cons (pv 3) (pa_cons (pe_comp rfl cs_law_0 rfl (pi_range1 rfl T.b.rng (pa_cons (pe_callB call_len_seq (by rfl) T.b.len PySem.boot_len (pa_cons (pv 1) pa_nil)) pa_nil)) (fun cl C fp s H => pg_name (i := 0) cs_law_0.nd rfl (Or.inl rfl)) (fun cl C fp s H => pts_one (pt_cmpR op_ne (pv 0) (pv 1) (nomark _))) (fun cl C fp s H => (pv 0))) pa_nil)))))) (pss_one (ps_ret pe_bl)) pss_nil)
      (pss_one (ps_set (i := 1) sc_law.nd rfl (Or.inl rfl) (pe_has h_law_without (hr.mono (by first | decide | omega)) (by rfl) pass0 (pa_cons (pv 1) (pa_cons (pv 3) pa_nil))))))) (pss_cons (ps_set (i := 4) sc_law.nd rfl (Or.inl rfl) (pe_has h_make_order (hr.mono (by first | decide | omega)) (by rfl) pass0V (pa_cons (pv 1) pa_nil)))
      (pss_cons (ps_asg (pe_has h_law_next (hr.mono (by first | decide | omega)) (by rfl) pass0 (pa_cons (pv 1) (pa_cons (pv 2) pa_nil))) (pg_tupL rfl (pgs_cons (pg_name (i := 1) sc_law.nd rfl (Or.inl rfl)) (pgs_cons (pg_name (i := 3) sc_law.nd rfl (Or.inr rfl)) pgs_nil))))
      (pss_cons (ps_set (i := 5) sc_law.nd rfl (Or.inl rfl) (pe_has h_make_order (hr.mono (by first | decide | omega)) (by rfl) pass0V (pa_cons (pv 1) pa_nil)))
      (pss_cons (ps_if (pt_not (pt_val (pe_has h_law_either hr (by rfl) pass0 (pa_cons (pv 5) pa_nil)))) (pss_one (ps_ret pe_bl)) pss_nil)
      (pss_one (ps_if (pt_cmpR (op_neTI hr.units0) (pe_has h_left_of (hr.mono (by first | decide | omega)) (by rfl) pass0V (pa_cons (pv 5) (pa_cons (pe_comp rfl cs_law_1 rfl (pi_tup (pv 5)) (fun cl C fp s H => pg_name (i := 0) cs_law_1.nd rfl (Or.inl rfl)) (fun cl C fp s H => pts_one (pt_cmpR op_ne (pv 0) (pv 1) (nomark _))) (fun cl C fp s H => (pv 0))) pa_nil))) (pv 4) (nomark _)) (pss_one (ps_ret pe_bl)) pss_nil))))))))) ?_
    intro t1'
    refine go_1 (ps_ret (pe_has h_law_either hr (by rfl) pass0 (pa_cons (pe_has h_make_order (hr.mono (by first | decide | omega)) (by rfl) pass0V (pa_cons (pv 1) pa_nil)) pa_nil))) ?_
    intro t2'
    refine ⟨(by show 1 ≤ sizeLine; decide), fun l0 hl0 => ?_⟩
    have s0 := same_upd (o := .lst [V.int 0]) hl0
    have e0 : (upd H l0 (.lst [V.int 0])) l0 = some (.lst (([0] : List Int).map V.int)) := upd_same
    generalize upd H l0 (.lst [V.int 0]) = H0 at s0 e0 ⊢
    refine gname_go ?_
    dsimp only [List.set]
    refine ⟨_, rfl, 1, rfl, 63, rfl, a, _, rfl, s0.seq hS, fun cp hcp => ?_⟩
    obtain ⟨cs, hcs⟩ : ∃ cs : List Int, cutV (ns.map V.int) (some 1) (some 63) = cs.map V.int := by
      unfold cutV
      rw [← List.map_drop, ← List.map_take]
      exact ⟨_, rfl⟩
    rw [hcs]
    have s1 := same_upd (o := .lst (cs.map V.int)) hcp
    have e1 : (upd H0 cp (.lst (cs.map V.int))) cp = some (.lst (cs.map V.int)) := upd_same
    have e01 := s1 _ _ e0
    have S1 := s0.trans s1
    generalize upd H0 cp (.lst (cs.map V.int)) = H1 at s1 e1 e01 S1 ⊢
    refine ⟨cp, rfl, ⟨_, SqL.of e1⟩, for_list (K := K) (a := cp) (xs := cs.map V.int) (fun _ σ Hx => ∃ (l : Addr) (ord : List Int) (v2 v3 v4 v5 : Option V), σ = [some (.ref a), some (.ref l), v2, v3, v4, v5] ∧ Same H1 Hx ∧ Hx l = some (.lst (ord.map V.int)) ∧ IsOrd ord ∧ 1 ≤ ord.length ∧ ord.length ≤ 25)
      ⟨l0, [0], none, none, none, none, rfl, Same.refl _, e01, ⟨.refl _⟩, by decide, by decide⟩ (fun i σ Hx _ ⟨_, _, _, _, _, _, _, sx, _⟩ => SqL.of (sx _ _ e1)) ?_ ?_⟩
    · rintro i y σ Hx hi ⟨l, ord, v2, v3, v4, v5, rfl, sx, el, hO, o1, o2⟩
      obtain ⟨c, _, rfl⟩ := ints_get hi
      have hln : ((ord.map V.int).length : Int) = (ord.length : Int) := by rw [List.length_map]
      refine gname_go ?_
      dsimp only [List.set]
      refine if_leaf (fun c => (c = true → 2 ≤ ord.length) ∧ (c = false → ord.length ≤ 24)) (fun Q' hQ => ?_) (fun hA => ?_) (fun hA => ?_)
      · refine ⟨_, rfl, l, _, rfl, .inl (SqL.of el), _, _, rfl, rfl, _, rfl, ?_⟩
        rw [hln]
        by_cases h24 : (24 : Int) < (ord.length : Int)
        · rw [decide_eq_true h24]
          exact iteT (hQ _ ⟨fun _ => by omega, fun z => by cases z⟩)
        rw [decide_eq_false h24]
        refine iteF ⟨_, rfl, c, 5, rfl, by decide, by decide, fun z hz' => ⟨_, _, rfl, rfl, (by show (0 : Int) < 4; decide), rfl, _, rfl, ?_⟩⟩
        by_cases h4 : z % 4 = 0
        · rw [decide_eq_true (by exact congrArg V.int h4)]
          refine iteT ⟨_, rfl, l, _, rfl, .inl (SqL.of el), _, _, rfl, rfl, _, rfl, ?_⟩
          rw [hln]
          exact hQ _ ⟨fun z => by have := of_decide_eq_true z; omega, fun _ => by omega⟩
        · rw [decide_eq_false (by intro z; exact h4 (V.int.inj z))]
          exact iteF (hQ _ ⟨(fun z => nomatch z), fun _ => by omega⟩)
      · have h2 := hA.1 rfl
        refine ⟨_, rfl, c, 6, rfl, by decide, by decide, fun z hz' => ⟨_, rfl, l, _, rfl, .inl (SqL.of el), _, _, rfl, rfl, (by show (0 : Int) < ((ord.map V.int).length : Int); omega), ?_⟩⟩
        refine gname_go ?_
        dsimp only [List.set]
        rw [hln]
        have w0 := Int.emod_nonneg z (show (ord.length : Int) ≠ 0 by omega)
        have w1 := Int.emod_lt_of_pos z (show (0 : Int) < (ord.length : Int) by omega)
        generalize z % (ord.length : Int) = wd at w0 w1 ⊢
        refine ⟨_, rfl, _, rfl, _, rfl, l, _, rfl, .inl (SqL.of el), (ord.length : Int), (by rw [hln]), by omega, by omega, fun D hD => ?_⟩
        rw [show ((ord.length : Nat) : Int).toNat = ord.length by omega]
        have sD : ∀ acc, Same Hx (upd Hx D (.lst acc)) := fun acc => same_upd hD
        refine comp_invF (n := ord.length) (fun i acc H' => acc = (butF i wd).map V.int ∧ H' = upd Hx D (.lst acc)) ⟨rfl, rfl⟩ ?_ (line1000 (by omega)) ?_ ?_ ?_
        · rintro i acc H' ⟨rfl, rfl⟩
          refine ⟨upd_same, ?_⟩
          unfold butF
          rw [List.length_map]
          refine Nat.le_trans (List.length_filter_le _ _) ?_
          rw [upto_len]
          exact Nat.le_refl _
        · rintro i acc H' hi' _
          exact hi'
        · rintro acc H' ⟨rfl, rfl⟩
          refine ⟨Nat.le_refl _, ?_⟩
          refine ⟨l, D, ord, wd, rfl, SqL.of (sD _ _ _ el), SqL.of upd_same, hO, h2, by omega, w0, w1, fun H3 s3 => ⟨_, rfl, iteF ?_⟩⟩
          have el3 := s3 _ _ (sD ((butF ord.length wd).map V.int) _ _ el)
          refine ⟨_, rfl, _, rfl, l, ord, wd, rfl, SqL.of el3, by omega, fun r H4 n4 e4 s4 => ?_⟩
          refine gname_go ?_
          obtain ⟨d1, d2⟩ := drop_ord hO w0 w1
          exact ⟨r, dropF ord wd, _, _, _, _, rfl, sx.trans ((sD _).trans (s3.trans s4)), e4, d1, by omega, by omega⟩
        · rintro i acc H' y' H5 R0 R1 hi' ⟨rfl, rfl⟩ ⟨rfl, rfl⟩ hR0 hR1
          refine ⟨_, rfl, _, rfl, rfl, _, rfl, ?_⟩
          by_cases hw : (i : Int) = wd
          · rw [show (!decide (V.int (0 + (i : Int)) = V.int wd)) = false by rw [Int.zero_add, hw]; simp]
            refine iteF (hR0 _ ⟨?_, rfl⟩)
            rw [but_succ, if_pos hw, List.append_nil]
          · rw [show (!decide (V.int (0 + (i : Int)) = V.int wd)) = true by rw [Int.zero_add]; simp [hw]]
            refine iteT ⟨_, rfl, hR1 _ _ upd_same ⟨?_, upd_upd⟩⟩
            rw [but_succ, if_neg hw, List.map_append, Int.zero_add]
            rfl
      · have h24 := hA.2 rfl
        have hG := good_ord hO o1 (by omega)
        refine ⟨_, rfl, l, _, rfl, SqL.of el, by rw [List.length_map]; omega, (fun x hx => plain_ints K _ _ x hx), fun _ t1 H2 n1 e2 s2 => ?_, fun z => absurd hG z⟩
        refine gname_go ?_
        dsimp only [List.set]
        refine ⟨_, rfl, _, rfl, l, ord, c, rfl, SqL.of (s2 _ _ el), hO, o1, by omega, fun r l2 p wd H3 nr nl2 er el2 hpl w0 w1 s3 => ?_⟩
        have hln2 := put_len (w := wd) hpl
        have pO := put_ord hO hpl w0 w1
        have hG2 := good_ord pO (by omega) (by omega)
        have hdp := drop_put (ord := ord) (p := p) (w := wd)
        generalize Tn.putF ord p wd = ho at el2 hln2 pO hG2 hdp
        refine ⟨r, _, rfl, SqL.of er, rfl, _, _, rfl, ?_⟩
        refine gname_go ?_
        dsimp only [List.set]
        refine ⟨_, _, rfl, ?_⟩
        refine gname_go ?_
        dsimp only [List.set]
        refine ⟨rfl, ?_⟩
        have s23 := s2.trans s3
        refine ⟨_, rfl, l2, _, rfl, SqL.of el2, by rw [List.length_map]; omega, (fun x hx => plain_ints K _ _ x hx), fun _ t2 H4 n4 e4 s4 => ?_, fun z => absurd hG2 z⟩
        refine gname_go ?_
        dsimp only [List.set]
        have s24 := s23.trans s4
        refine ⟨_, rfl, t2, ho, rfl, SqT.of e4, pO, by omega, by omega, (S1.trans (sx.trans s24)) _ _ hp, fun H5 s5 => ⟨_, rfl, iteF ?_⟩⟩
        have e45 := s5 _ _ e4
        refine ⟨_, rfl, _, rfl, t2, rfl, ⟨_, SqT.of e45⟩, fun D hD => ?_⟩
        have sD : ∀ acc, Same H5 (upd H5 D (.lst acc)) := fun acc => same_upd hD
        refine comp_invF (n := ho.length) (fun i acc H' => acc = ((ho.take i).filter fun v => decide (v ≠ wd)).map V.int ∧ H' = upd H5 D (.lst acc)) ⟨rfl, rfl⟩ ?_ (line1000 (by omega)) ?_ ?_ ?_
        · rintro i acc H' ⟨rfl, rfl⟩
          refine ⟨upd_same, ?_⟩
          rw [List.length_map]
          refine Nat.le_trans (List.length_filter_le _ _) ?_
          rw [List.length_take]
          exact Nat.min_le_left _ _
        · rintro i acc H' hi' ⟨rfl, rfl⟩
          exact ⟨ho.map V.int, V.int ho[i], (sD _).sqt (SqT.of e45), get_ints (by simp [hi'])⟩
        · rintro acc H' ⟨rfl, rfl⟩
          refine ⟨⟨ho.map V.int, (sD _).sqt (SqT.of e45), by rw [List.length_map]; exact Nat.le_refl _⟩, ?_⟩
          rw [List.take_length]
          have nd : (ho.filter fun v => decide (v ≠ wd)).Nodup := pO.nodup.filter _
          have hm : ∀ v, v ∈ (ho.filter fun v => decide (v ≠ wd)) ↔ (0 ≤ v ∧ v < (ho.length : Int)) ∧ v ≠ wd := fun v => by rw [List.mem_filter, pO.mem, decide_eq_true_eq]
          have hld := left_drop pO nd hm w0
          rw [hdp] at hld
          have hwl : (ho.filter fun v => decide (v ≠ wd)).length ≤ 25 := Nat.le_trans (List.length_filter_le _ _) (by omega)
          have hne : (ho.filter fun v => decide (v ≠ wd)) ≠ [] := fun z => by
            have : leftF ho (ho.filter fun v => decide (v ≠ wd)) = [] := by rw [z]; simp [leftF]
            rw [hld] at this
            rw [this] at o1
            simp at o1
          generalize hws : (ho.filter fun v => decide (v ≠ wd)) = ws at nd hm hld hwl hne
          have rg : ∀ v ∈ ws, 0 ≤ v ∧ v < (ho.length : Int) := fun v hv => ((hm v).mp hv).1
          refine ⟨t2, D, ho, _, rfl, (sD _).sqt (SqT.of e45), by omega, SqL.of upd_same, by rw [List.length_map]; omega, (fun x hx => plain_ints K _ _ x hx), fun ws' ew _ _ _ _ t6 H6 n6 e6 s6 => ?_, .inr (fun _ => by rw [List.length_map]; omega), fun z => ?_⟩
          · rw [← ints_inj ew, hld] at e6
            have s56 := s5.trans ((sD (ws.map V.int)).trans s6)
            refine ⟨_, rfl, t6, t1, _, _, rfl, rfl, SqT.of e6, SqT.of ((s3.trans (s4.trans s56)) _ _ e2), _, rfl, ?_⟩
            rw [decide_eq_true rfl]
            exact iteF ⟨l2, ho, _, _, _, _, rfl, sx.trans (s24.trans s56), (s4.trans s56) _ _ el2, pO, by omega, by omega⟩
          · exfalso
            rcases z with z | z
            · exact hne (by simpa using z)
            · rw [diff_ok nd rg] at z; cases z
        · rintro i acc H' y' H6 R0 R1 hi' ⟨rfl, rfl⟩ ⟨rfl, hy⟩ hR0 hR1
          obtain ⟨z, hz', rfl⟩ := ints_get (hy _ ((sD _).sqt (SqT.of e45)))
          have hcat : ho.take (i + 1) = ho.take i ++ [z] := by rw [List.take_succ, hz']; rfl
          refine ⟨_, rfl, _, rfl, rfl, _, rfl, ?_⟩
          by_cases hw : z = wd
          · rw [show (!decide (V.int z = V.int wd)) = false by rw [hw]; simp]
            refine iteF (hR0 _ ⟨?_, rfl⟩)
            rw [hcat, List.filter_append, List.filter_cons_of_neg (by simp [hw]), List.filter_nil, List.append_nil]
          · rw [show (!decide (V.int z = V.int wd)) = true by simp [hw]]
            refine iteT ⟨_, rfl, hR1 _ _ upd_same ⟨?_, upd_upd⟩⟩
            rw [hcat, List.filter_append, List.filter_cons_of_pos (by simpa using hw), List.map_append]
            rfl
    · rintro σ Hx ⟨l, ord, v2, v3, v4, v5, rfl, sx, el, hO, o1, o2⟩
      have hG := good_ord hO o1 (by omega)
      refine ⟨_, rfl, l, _, rfl, SqL.of el, by rw [List.length_map]; omega, (fun x hx => plain_ints K _ _ x hx), fun _ t1 H2 n1 e2 s2 => ?_, fun z => absurd hG z⟩
      exact ⟨t1, ord, rfl, SqT.of e2, hO, o1, by omega, (S1.trans (sx.trans s2)) _ _ hp, fun H3 s3 => q _ (S1.trans (sx.trans (s2.trans s3)))⟩
end
theorem all_mk {l : PySem.W.OpenLaw} {w : World} {K : PySem.W.Frag} {h : Heap} {mg : Str → Option Value} {fa f0 f1 f2 f3 f4 f5 f6 f7 f8 f9 f10 f11 f12 f13 f14 f15 f16 f17 f18 f19 f20 f21 f22 f23 f24 f25 f26 f27 f28 f29 f30 f31 f32 f33 : Addr} {tp ca : Addr} {tq : Str} (etq : tq = "bar_around.<locals>.<lambda>") (X : K.In h) (G : h.Ns mainGlobals mg) (hfa : mg "law" = some (.ref fa))
    {od0 an0 : Option Addr} {sl0 : Array (Option Value)} {oc0 kV0 dc0 pm0 cd0 ct0 : Value}
    (a0 : PySem.W.nsIn K mainGlobals "is_whole" = some (some (.ref f0))) (l0 : K.lookup f0 = some ⟨oc0, od0, .func (PySem.W.fnOf "is_whole" "is_whole" (defArgs s_is_whole) (defBody s_is_whole) (defScope s_is_whole) .none kV0 dc0 pm0 an0 cd0 ct0), sl0⟩)
    (c0 : PySem.W.codeIn K cd0 "is_whole" = true) (k0 : PySem.W.keepIn K (.ref f0) = true)
    {od1 an1 : Option Addr} {sl1 : Array (Option Value)} {oc1 kV1 dc1 pm1 cd1 ct1 : Value}
    (a1 : PySem.W.nsIn K mainGlobals "are_different_below" = some (some (.ref f1))) (l1 : K.lookup f1 = some ⟨oc1, od1, .func (PySem.W.fnOf "are_different_below" "are_different_below" (defArgs s_are_different_below) (defBody s_are_different_below) (defScope s_are_different_below) .none kV1 dc1 pm1 an1 cd1 ct1), sl1⟩)
    (c1 : PySem.W.codeIn K cd1 "are_different_below" = true) (k1 : PySem.W.keepIn K (.ref f1) = true)
    {od2 an2 : Option Addr} {sl2 : Array (Option Value)} {oc2 kV2 dc2 pm2 cd2 ct2 : Value}
    (a2 : PySem.W.nsIn K mainGlobals "make_order" = some (some (.ref f2))) (l2 : K.lookup f2 = some ⟨oc2, od2, .func (PySem.W.fnOf "make_order" "make_order" (defArgs s_make_order) (defBody s_make_order) (defScope s_make_order) .none kV2 dc2 pm2 an2 cd2 ct2), sl2⟩)
    (c2 : PySem.W.codeIn K cd2 "make_order" = true) (k2 : PySem.W.keepIn K (.ref f2) = true)
    {od3 an3 : Option Addr} {sl3 : Array (Option Value)} {oc3 kV3 dc3 pm3 cd3 ct3 : Value}
    (a3 : PySem.W.nsIn K mainGlobals "mirror" = some (some (.ref f3))) (l3 : K.lookup f3 = some ⟨oc3, od3, .func (PySem.W.fnOf "mirror" "mirror" (defArgs s_mirror) (defBody s_mirror) (defScope s_mirror) .none kV3 dc3 pm3 an3 cd3 ct3), sl3⟩)
    (c3 : PySem.W.codeIn K cd3 "mirror" = true) (k3 : PySem.W.keepIn K (.ref f3) = true)
    {od4 an4 : Option Addr} {sl4 : Array (Option Value)} {oc4 kV4 dc4 pm4 cd4 ct4 : Value}
    (a4 : PySem.W.nsIn K mainGlobals "left_of" = some (some (.ref f4))) (l4 : K.lookup f4 = some ⟨oc4, od4, .func (PySem.W.fnOf "left_of" "left_of" (defArgs s_left_of) (defBody s_left_of) (defScope s_left_of) .none kV4 dc4 pm4 an4 cd4 ct4), sl4⟩)
    (c4 : PySem.W.codeIn K cd4 "left_of" = true) (k4 : PySem.W.keepIn K (.ref f4) = true)
    {od5 an5 : Option Addr} {sl5 : Array (Option Value)} {oc5 kV5 dc5 pm5 cd5 ct5 : Value}
    (a5 : PySem.W.nsIn K mainGlobals "must_be_words" = some (some (.ref f5))) (l5 : K.lookup f5 = some ⟨oc5, od5, .func (PySem.W.fnOf "must_be_words" "must_be_words" (defArgs s_must_be_words) (defBody s_must_be_words) (defScope s_must_be_words) .none kV5 dc5 pm5 an5 cd5 ct5), sl5⟩)
    (c5 : PySem.W.codeIn K cd5 "must_be_words" = true) (k5 : PySem.W.keepIn K (.ref f5) = true)
    {od6 an6 : Option Addr} {sl6 : Array (Option Value)} {oc6 kV6 dc6 pm6 cd6 ct6 : Value}
    (a6 : PySem.W.nsIn K mainGlobals "put_together" = some (some (.ref f6))) (l6 : K.lookup f6 = some ⟨oc6, od6, .func (PySem.W.fnOf "put_together" "put_together" (defArgs s_put_together) (defBody s_put_together) (defScope s_put_together) .none kV6 dc6 pm6 an6 cd6 ct6), sl6⟩)
    (c6 : PySem.W.codeIn K cd6 "put_together" = true) (k6 : PySem.W.keepIn K (.ref f6) = true)
    {od7 an7 : Option Addr} {sl7 : Array (Option Value)} {oc7 kV7 dc7 pm7 cd7 ct7 : Value}
    (a7 : PySem.W.nsIn K mainGlobals "must_fit" = some (some (.ref f7))) (l7 : K.lookup f7 = some ⟨oc7, od7, .func (PySem.W.fnOf "must_fit" "must_fit" (defArgs s_must_fit) (defBody s_must_fit) (defScope s_must_fit) .none kV7 dc7 pm7 an7 cd7 ct7), sl7⟩)
    (c7 : PySem.W.codeIn K cd7 "must_fit" = true) (k7 : PySem.W.keepIn K (.ref f7) = true)
    {od8 an8 : Option Addr} {sl8 : Array (Option Value)} {oc8 kV8 dc8 pm8 cd8 ct8 : Value}
    (a8 : PySem.W.nsIn K mainGlobals "first_numbers" = some (some (.ref f8))) (l8 : K.lookup f8 = some ⟨oc8, od8, .func (PySem.W.fnOf "first_numbers" "first_numbers" (defArgs s_first_numbers) (defBody s_first_numbers) (defScope s_first_numbers) .none kV8 dc8 pm8 an8 cd8 ct8), sl8⟩)
    (c8 : PySem.W.codeIn K cd8 "first_numbers" = true) (k8 : PySem.W.keepIn K (.ref f8) = true)
    {od9 an9 : Option Addr} {sl9 : Array (Option Value)} {oc9 kV9 dc9 pm9 cd9 ct9 : Value}
    (a9 : PySem.W.nsIn K mainGlobals "is_nest" = some (some (.ref f9))) (l9 : K.lookup f9 = some ⟨oc9, od9, .func (PySem.W.fnOf "is_nest" "is_nest" (defArgs s_is_nest) (defBody s_is_nest) (defScope s_is_nest) .none kV9 dc9 pm9 an9 cd9 ct9), sl9⟩)
    (c9 : PySem.W.codeIn K cd9 "is_nest" = true) (k9 : PySem.W.keepIn K (.ref f9) = true)
    {od10 an10 : Option Addr} {sl10 : Array (Option Value)} {oc10 kV10 dc10 pm10 cd10 ct10 : Value}
    (a10 : PySem.W.nsIn K mainGlobals "is_knot" = some (some (.ref f10))) (l10 : K.lookup f10 = some ⟨oc10, od10, .func (PySem.W.fnOf "is_knot" "is_knot" (defArgs s_is_knot) (defBody s_is_knot) (defScope s_is_knot) .none kV10 dc10 pm10 an10 cd10 ct10), sl10⟩)
    (c10 : PySem.W.codeIn K cd10 "is_knot" = true) (k10 : PySem.W.keepIn K (.ref f10) = true)
    {od11 an11 : Option Addr} {sl11 : Array (Option Value)} {oc11 kV11 dc11 pm11 cd11 ct11 : Value}
    (a11 : PySem.W.nsIn K mainGlobals "must_be_nest" = some (some (.ref f11))) (l11 : K.lookup f11 = some ⟨oc11, od11, .func (PySem.W.fnOf "must_be_nest" "must_be_nest" (defArgs s_must_be_nest) (defBody s_must_be_nest) (defScope s_must_be_nest) .none kV11 dc11 pm11 an11 cd11 ct11), sl11⟩)
    (c11 : PySem.W.codeIn K cd11 "must_be_nest" = true) (k11 : PySem.W.keepIn K (.ref f11) = true)
    {od12 an12 : Option Addr} {sl12 : Array (Option Value)} {oc12 kV12 dc12 pm12 cd12 ct12 : Value}
    (a12 : PySem.W.nsIn K mainGlobals "is_of_kind" = some (some (.ref f12))) (l12 : K.lookup f12 = some ⟨oc12, od12, .func (PySem.W.fnOf "is_of_kind" "is_of_kind" (defArgs s_is_of_kind) (defBody s_is_of_kind) (defScope s_is_of_kind) .none kV12 dc12 pm12 an12 cd12 ct12), sl12⟩)
    (c12 : PySem.W.codeIn K cd12 "is_of_kind" = true) (k12 : PySem.W.keepIn K (.ref f12) = true)
    {od13 an13 : Option Addr} {sl13 : Array (Option Value)} {oc13 kV13 dc13 pm13 cd13 ct13 : Value}
    (a13 : PySem.W.nsIn K mainGlobals "seen" = some (some (.ref f13))) (l13 : K.lookup f13 = some ⟨oc13, od13, .func (PySem.W.fnOf "seen" "seen" (defArgs s_seen) (defBody s_seen) (defScope s_seen) .none kV13 dc13 pm13 an13 cd13 ct13), sl13⟩)
    (c13 : PySem.W.codeIn K cd13 "seen" = true) (k13 : PySem.W.keepIn K (.ref f13) = true)
    {od14 an14 : Option Addr} {sl14 : Array (Option Value)} {oc14 kV14 dc14 pm14 cd14 ct14 : Value}
    (a14 : PySem.W.nsIn K mainGlobals "order_of" = some (some (.ref f14))) (l14 : K.lookup f14 = some ⟨oc14, od14, .func (PySem.W.fnOf "order_of" "order_of" (defArgs s_order_of) (defBody s_order_of) (defScope s_order_of) .none kV14 dc14 pm14 an14 cd14 ct14), sl14⟩)
    (c14 : PySem.W.codeIn K cd14 "order_of" = true) (k14 : PySem.W.keepIn K (.ref f14) = true)
    {od15 an15 : Option Addr} {sl15 : Array (Option Value)} {oc15 kV15 dc15 pm15 cd15 ct15 : Value}
    (a15 : PySem.W.nsIn K mainGlobals "count_words" = some (some (.ref f15))) (l15 : K.lookup f15 = some ⟨oc15, od15, .func (PySem.W.fnOf "count_words" "count_words" (defArgs s_count_words) (defBody s_count_words) (defScope s_count_words) .none kV15 dc15 pm15 an15 cd15 ct15), sl15⟩)
    (c15 : PySem.W.codeIn K cd15 "count_words" = true) (k15 : PySem.W.keepIn K (.ref f15) = true)
    {od16 an16 : Option Addr} {sl16 : Array (Option Value)} {oc16 kV16 dc16 pm16 cd16 ct16 : Value}
    (a16 : PySem.W.nsIn K mainGlobals "shared_out" = some (some (.ref f16))) (l16 : K.lookup f16 = some ⟨oc16, od16, .func (PySem.W.fnOf "shared_out" "shared_out" (defArgs s_shared_out) (defBody s_shared_out) (defScope s_shared_out) .none kV16 dc16 pm16 an16 cd16 ct16), sl16⟩)
    (c16 : PySem.W.codeIn K cd16 "shared_out" = true) (k16 : PySem.W.keepIn K (.ref f16) = true)
    {od17 an17 : Option Addr} {sl17 : Array (Option Value)} {oc17 kV17 dc17 pm17 cd17 ct17 : Value}
    (a17 : PySem.W.nsIn K mainGlobals "left_nest" = some (some (.ref f17))) (l17 : K.lookup f17 = some ⟨oc17, od17, .func (PySem.W.fnOf "left_nest" "left_nest" (defArgs s_left_nest) (defBody s_left_nest) (defScope s_left_nest) .none kV17 dc17 pm17 an17 cd17 ct17), sl17⟩)
    (c17 : PySem.W.codeIn K cd17 "left_nest" = true) (k17 : PySem.W.keepIn K (.ref f17) = true)
    {od18 an18 : Option Addr} {sl18 : Array (Option Value)} {oc18 kV18 dc18 pm18 cd18 ct18 : Value}
    (a18 : PySem.W.nsIn K mainGlobals "left_parts" = some (some (.ref f18))) (l18 : K.lookup f18 = some ⟨oc18, od18, .func (PySem.W.fnOf "left_parts" "left_parts" (defArgs s_left_parts) (defBody s_left_parts) (defScope s_left_parts) .none kV18 dc18 pm18 an18 cd18 ct18), sl18⟩)
    (c18 : PySem.W.codeIn K cd18 "left_parts" = true) (k18 : PySem.W.keepIn K (.ref f18) = true)
    {od19 an19 : Option Addr} {sl19 : Array (Option Value)} {oc19 kV19 dc19 pm19 cd19 ct19 : Value}
    (a19 : PySem.W.nsIn K mainGlobals "knot_of" = some (some (.ref f19))) (l19 : K.lookup f19 = some ⟨oc19, od19, .func (PySem.W.fnOf "knot_of" "knot_of" (defArgs s_knot_of) (defBody s_knot_of) (defScope s_knot_of) .none kV19 dc19 pm19 an19 cd19 ct19), sl19⟩)
    (c19 : PySem.W.codeIn K cd19 "knot_of" = true) (k19 : PySem.W.keepIn K (.ref f19) = true)
    {od20 an20 : Option Addr} {sl20 : Array (Option Value)} {oc20 kV20 dc20 pm20 cd20 ct20 : Value}
    (a20 : PySem.W.nsIn K mainGlobals "cuts" = some (some (.ref f20))) (l20 : K.lookup f20 = some ⟨oc20, od20, .func (PySem.W.fnOf "cuts" "cuts" (defArgs s_cuts) (defBody s_cuts) (defScope s_cuts) .none kV20 dc20 pm20 an20 cd20 ct20), sl20⟩)
    (c20 : PySem.W.codeIn K cd20 "cuts" = true) (k20 : PySem.W.keepIn K (.ref f20) = true)
    {od21 an21 : Option Addr} {sl21 : Array (Option Value)} {oc21 kV21 dc21 pm21 cd21 ct21 : Value}
    (a21 : PySem.W.nsIn K mainGlobals "nest_of" = some (some (.ref f21))) (l21 : K.lookup f21 = some ⟨oc21, od21, .func (PySem.W.fnOf "nest_of" "nest_of" (defArgs s_nest_of) (defBody s_nest_of) (defScope s_nest_of) .none kV21 dc21 pm21 an21 cd21 ct21), sl21⟩)
    (c21 : PySem.W.codeIn K cd21 "nest_of" = true) (k21 : PySem.W.keepIn K (.ref f21) = true)
    {od22 an22 : Option Addr} {sl22 : Array (Option Value)} {oc22 kV22 dc22 pm22 cd22 ct22 : Value}
    (a22 : PySem.W.nsIn K mainGlobals "stretches" = some (some (.ref f22))) (l22 : K.lookup f22 = some ⟨oc22, od22, .func (PySem.W.fnOf "stretches" "stretches" (defArgs s_stretches) (defBody s_stretches) (defScope s_stretches) .none kV22 dc22 pm22 an22 cd22 ct22), sl22⟩)
    (c22 : PySem.W.codeIn K cd22 "stretches" = true) (k22 : PySem.W.keepIn K (.ref f22) = true)
    {od23 an23 : Option Addr} {sl23 : Array (Option Value)} {oc23 kV23 dc23 pm23 cd23 ct23 : Value}
    (a23 : PySem.W.nsIn K mainGlobals "bar_of" = some (some (.ref f23))) (l23 : K.lookup f23 = some ⟨oc23, od23, .func (PySem.W.fnOf "bar_of" "bar_of" (defArgs s_bar_of) (defBody s_bar_of) (defScope s_bar_of) .none kV23 dc23 pm23 an23 cd23 ct23), sl23⟩)
    (c23 : PySem.W.codeIn K cd23 "bar_of" = true) (k23 : PySem.W.keepIn K (.ref f23) = true)
    {od24 an24 : Option Addr} {sl24 : Array (Option Value)} {oc24 kV24 dc24 pm24 cd24 ct24 : Value}
    (a24 : PySem.W.nsIn K mainGlobals "falling_bar" = some (some (.ref f24))) (l24 : K.lookup f24 = some ⟨oc24, od24, .func (PySem.W.fnOf "falling_bar" "falling_bar" (defArgs s_falling_bar) (defBody s_falling_bar) (defScope s_falling_bar) .none kV24 dc24 pm24 an24 cd24 ct24), sl24⟩)
    (c24 : PySem.W.codeIn K cd24 "falling_bar" = true) (k24 : PySem.W.keepIn K (.ref f24) = true)
    {od25 an25 : Option Addr} {sl25 : Array (Option Value)} {oc25 kV25 dc25 pm25 ct25 : Value}
    (a25 : PySem.W.nsIn K mainGlobals "bar_around" = some (some (.ref f25))) (l25 : K.lookup f25 = some ⟨oc25, od25, .func (PySem.W.fnOf "bar_around" "bar_around" (defArgs s_bar_around) (defBody s_bar_around) (defScope s_bar_around) .none kV25 dc25 pm25 an25 (.ref ca) ct25), sl25⟩)
    (c25 : PySem.W.codeIn K (.ref ca) "bar_around" = true) (k25 : PySem.W.keepIn K (.ref f25) = true)
    {od26 an26 : Option Addr} {sl26 : Array (Option Value)} {oc26 kV26 dc26 pm26 cd26 ct26 : Value}
    (a26 : PySem.W.nsIn K mainGlobals "_law_mixed" = some (some (.ref f26))) (l26 : K.lookup f26 = some ⟨oc26, od26, .func (PySem.W.fnOf "_law_mixed" "_law_mixed" (defArgs s_law_mixed) (defBody s_law_mixed) (defScope s_law_mixed) .none kV26 dc26 pm26 an26 cd26 ct26), sl26⟩)
    (c26 : PySem.W.codeIn K cd26 "_law_mixed" = true) (k26 : PySem.W.keepIn K (.ref f26) = true)
    {od27 an27 : Option Addr} {sl27 : Array (Option Value)} {oc27 kV27 dc27 pm27 cd27 ct27 : Value}
    (a27 : PySem.W.nsIn K mainGlobals "_law_put_in" = some (some (.ref f27))) (l27 : K.lookup f27 = some ⟨oc27, od27, .func (PySem.W.fnOf "_law_put_in" "_law_put_in" (defArgs s_law_put_in) (defBody s_law_put_in) (defScope s_law_put_in) .none kV27 dc27 pm27 an27 cd27 ct27), sl27⟩)
    (c27 : PySem.W.codeIn K cd27 "_law_put_in" = true) (k27 : PySem.W.keepIn K (.ref f27) = true)
    {od28 an28 : Option Addr} {sl28 : Array (Option Value)} {oc28 kV28 dc28 pm28 cd28 ct28 : Value}
    (a28 : PySem.W.nsIn K mainGlobals "_law_without" = some (some (.ref f28))) (l28 : K.lookup f28 = some ⟨oc28, od28, .func (PySem.W.fnOf "_law_without" "_law_without" (defArgs s_law_without) (defBody s_law_without) (defScope s_law_without) .none kV28 dc28 pm28 an28 cd28 ct28), sl28⟩)
    (c28 : PySem.W.codeIn K cd28 "_law_without" = true) (k28 : PySem.W.keepIn K (.ref f28) = true)
    {od29 an29 : Option Addr} {sl29 : Array (Option Value)} {oc29 kV29 dc29 pm29 cd29 ct29 : Value}
    (a29 : PySem.W.nsIn K mainGlobals "_law_bar_good" = some (some (.ref f29))) (l29 : K.lookup f29 = some ⟨oc29, od29, .func (PySem.W.fnOf "_law_bar_good" "_law_bar_good" (defArgs s_law_bar_good) (defBody s_law_bar_good) (defScope s_law_bar_good) .none kV29 dc29 pm29 an29 cd29 ct29), sl29⟩)
    (c29 : PySem.W.codeIn K cd29 "_law_bar_good" = true) (k29 : PySem.W.keepIn K (.ref f29) = true)
    {od30 an30 : Option Addr} {sl30 : Array (Option Value)} {oc30 kV30 dc30 pm30 cd30 ct30 : Value}
    (a30 : PySem.W.nsIn K mainGlobals "_law_either" = some (some (.ref f30))) (l30 : K.lookup f30 = some ⟨oc30, od30, .func (PySem.W.fnOf "_law_either" "_law_either" (defArgs s_law_either) (defBody s_law_either) (defScope s_law_either) .none kV30 dc30 pm30 an30 cd30 ct30), sl30⟩)
    (c30 : PySem.W.codeIn K cd30 "_law_either" = true) (k30 : PySem.W.keepIn K (.ref f30) = true)
    {od31 an31 : Option Addr} {sl31 : Array (Option Value)} {oc31 kV31 dc31 pm31 cd31 ct31 : Value}
    (a31 : PySem.W.nsIn K mainGlobals "_law_gone" = some (some (.ref f31))) (l31 : K.lookup f31 = some ⟨oc31, od31, .func (PySem.W.fnOf "_law_gone" "_law_gone" (defArgs s_law_gone) (defBody s_law_gone) (defScope s_law_gone) .none kV31 dc31 pm31 an31 cd31 ct31), sl31⟩)
    (c31 : PySem.W.codeIn K cd31 "_law_gone" = true) (k31 : PySem.W.keepIn K (.ref f31) = true)
    {od32 an32 : Option Addr} {sl32 : Array (Option Value)} {oc32 kV32 dc32 pm32 cd32 ct32 : Value}
    (a32 : PySem.W.nsIn K mainGlobals "_law_next" = some (some (.ref f32))) (l32 : K.lookup f32 = some ⟨oc32, od32, .func (PySem.W.fnOf "_law_next" "_law_next" (defArgs s_law_next) (defBody s_law_next) (defScope s_law_next) .none kV32 dc32 pm32 an32 cd32 ct32), sl32⟩)
    (c32 : PySem.W.codeIn K cd32 "_law_next" = true) (k32 : PySem.W.keepIn K (.ref f32) = true)
    {od33 an33 : Option Addr} {sl33 : Array (Option Value)} {oc33 kV33 dc33 pm33 cd33 ct33 : Value}
    (a33 : PySem.W.nsIn K mainGlobals "law" = some (some (.ref f33))) (l33 : K.lookup f33 = some ⟨oc33, od33, .func (PySem.W.fnOf "law" "law" (defArgs s_law) (defBody s_law) (defScope s_law) .none kV33 dc33 pm33 an33 cd33 ct33), sl33⟩)
    (c33 : PySem.W.codeIn K cd33 "law" = true) (k33 : PySem.W.keepIn K (.ref f33) = true)
    (z0 : PySem.W.nsIn K mainGlobals "len" = some none)
    (z1 : PySem.W.nsIn K mainGlobals "range" = some none)
    (z2 : PySem.W.nsIn K mainGlobals "list" = some none)
    (z3 : PySem.W.nsIn K mainGlobals "tuple" = some none)
    (z4 : PySem.W.nsIn K mainGlobals "isinstance" = some none)
    (z5 : PySem.W.nsIn K mainGlobals "int" = some none)
    (z6 : PySem.W.nsIn K mainGlobals "bool" = some none)
    (z7 : PySem.W.nsIn K mainGlobals "str" = some none)
    (z8 : PySem.W.nsIn K mainGlobals "sum" = some none)
    (z9 : PySem.W.nsIn K mainGlobals "max" = some none)
    (z10 : PySem.W.nsIn K mainGlobals "min" = some none)
    (z11 : PySem.W.nsIn K mainGlobals "ValueError" = some none)
    (z12 : PySem.W.nsIn K mainGlobals "sorted" = some none)
    (z13 : PySem.W.nsIn K mainGlobals "enumerate" = some none)
    (z14 : PySem.W.nsIn K mainGlobals "reversed" = some none)
    (z15 : PySem.W.nsIn K mainGlobals "zip" = some none)
    {cNoWords : Addr}
    (gNoWords : PySem.W.nsIn K mainGlobals "NoWords" = some (some (.ref cNoWords)))
    (xNoWords : PySem.W.excIn K cNoWords bmVE "ValueError.__new__" = true)
    {cNoOrder : Addr}
    (gNoOrder : PySem.W.nsIn K mainGlobals "NoOrder" = some (some (.ref cNoOrder)))
    (xNoOrder : PySem.W.excIn K cNoOrder bmVE "ValueError.__new__" = true)
    {cNoNest : Addr}
    (gNoNest : PySem.W.nsIn K mainGlobals "NoNest" = some (some (.ref cNoNest)))
    (xNoNest : PySem.W.excIn K cNoNest bmVE "ValueError.__new__" = true)
    {mw mb : Tok}
    (gM : PySem.W.nsIn K mainGlobals "MOST_WORDS" = some (some (.int 60 mw)))
    (gB : PySem.W.nsIn K mainGlobals "BARRED" = some (some (.str "barred" mb)))
    (hKp : K.lookup tp = none) (hcp : PySem.W.codeHdIn K ca tp = true)
    : ∃ fd : FuncData, (∀ (s : Shared) (v : Value), BindsTo s fd ⟨[v], []⟩ [("script", v)]) ∧ (K.lookup tp = none ∧ ∃ c, PySem.W.codeHdIn K c tp = true) ∧ ∀ base : Heap, K.In base → base.Ns mainGlobals mg → BmAt mg base → FnOk l.prog w K mg base CX0 66 fa fd ["script"] (spLaw K tp tq) := by
  have e := hfa.symm.trans (PySem.W.mg_of X G a33)
  cases e
  have F0 := fun_mk (st := s_is_whole) l0 c0 k0
  have b0 := F0.binds (ps := ["thing"]) fun _ _ _ _ _ _ us hl => by obtain ⟨_, rfl⟩ := len_1 hl; rfl
  have m0 := PySem.W.mg_of X G a0
  have F1 := fun_mk (st := s_are_different_below) l1 c1 k1
  have b1 := F1.binds (ps := ["things", "bound"]) fun _ _ _ _ _ _ us hl => by obtain ⟨_, _, rfl⟩ := len_2 hl; rfl
  have m1 := PySem.W.mg_of X G a1
  have F2 := fun_mk (st := s_make_order) l2 c2 k2
  have b2 := F2.binds (ps := ["numbers"]) fun _ _ _ _ _ _ us hl => by obtain ⟨_, rfl⟩ := len_1 hl; rfl
  have m2 := PySem.W.mg_of X G a2
  have F3 := fun_mk (st := s_mirror) l3 c3 k3
  have b3 := F3.binds (ps := ["order"]) fun _ _ _ _ _ _ us hl => by obtain ⟨_, rfl⟩ := len_1 hl; rfl
  have m3 := PySem.W.mg_of X G a3
  have F4 := fun_mk (st := s_left_of) l4 c4 k4
  have b4 := F4.binds (ps := ["order", "words"]) fun _ _ _ _ _ _ us hl => by obtain ⟨_, _, rfl⟩ := len_2 hl; rfl
  have m4 := PySem.W.mg_of X G a4
  have F5 := fun_mk (st := s_must_be_words) l5 c5 k5
  have b5 := F5.binds (ps := ["words", "many"]) fun _ _ _ _ _ _ us hl => by obtain ⟨_, _, rfl⟩ := len_2 hl; rfl
  have m5 := PySem.W.mg_of X G a5
  have F6 := fun_mk (st := s_put_together) l6 c6 k6
  have b6 := F6.binds (ps := ["order", "orders"]) fun _ _ _ _ _ _ us hl => by obtain ⟨_, _, rfl⟩ := len_2 hl; rfl
  have m6 := PySem.W.mg_of X G a6
  have F7 := fun_mk (st := s_must_fit) l7 c7 k7
  have b7 := F7.binds (ps := ["sizes", "many"]) fun _ _ _ _ _ _ us hl => by obtain ⟨_, _, rfl⟩ := len_2 hl; rfl
  have m7 := PySem.W.mg_of X G a7
  have F8 := fun_mk (st := s_first_numbers) l8 c8 k8
  have b8 := F8.binds (ps := ["orders"]) fun _ _ _ _ _ _ us hl => by obtain ⟨_, rfl⟩ := len_1 hl; rfl
  have m8 := PySem.W.mg_of X G a8
  have F9 := fun_mk (st := s_is_nest) l9 c9 k9
  have b9 := F9.binds (ps := ["thing"]) fun _ _ _ _ _ _ us hl => by obtain ⟨_, rfl⟩ := len_1 hl; rfl
  have m9 := PySem.W.mg_of X G a9
  have F10 := fun_mk (st := s_is_knot) l10 c10 k10
  have b10 := F10.binds (ps := ["thing"]) fun _ _ _ _ _ _ us hl => by obtain ⟨_, rfl⟩ := len_1 hl; rfl
  have m10 := PySem.W.mg_of X G a10
  have F11 := fun_mk (st := s_must_be_nest) l11 c11 k11
  have b11 := F11.binds (ps := ["thing"]) fun _ _ _ _ _ _ us hl => by obtain ⟨_, rfl⟩ := len_1 hl; rfl
  have m11 := PySem.W.mg_of X G a11
  have F12 := fun_mk (st := s_is_of_kind) l12 c12 k12
  have b12 := F12.binds (ps := ["nest", "kind"]) fun _ _ _ _ _ _ us hl => by obtain ⟨_, _, rfl⟩ := len_2 hl; rfl
  have m12 := PySem.W.mg_of X G a12
  have F13 := fun_mk (st := s_seen) l13 c13 k13
  have b13 := F13.binds (ps := ["nest"]) fun _ _ _ _ _ _ us hl => by obtain ⟨_, rfl⟩ := len_1 hl; rfl
  have m13 := PySem.W.mg_of X G a13
  have F14 := fun_mk (st := s_order_of) l14 c14 k14
  have b14 := F14.binds (ps := ["nest"]) fun _ _ _ _ _ _ us hl => by obtain ⟨_, rfl⟩ := len_1 hl; rfl
  have m14 := PySem.W.mg_of X G a14
  have F15 := fun_mk (st := s_count_words) l15 c15 k15
  have b15 := F15.binds (ps := ["nest"]) fun _ _ _ _ _ _ us hl => by obtain ⟨_, rfl⟩ := len_1 hl; rfl
  have m15 := PySem.W.mg_of X G a15
  have F16 := fun_mk (st := s_shared_out) l16 c16 k16
  have b16 := F16.binds (ps := ["nest", "things"]) fun _ _ _ _ _ _ us hl => by obtain ⟨_, _, rfl⟩ := len_2 hl; rfl
  have m16 := PySem.W.mg_of X G a16
  have F17 := fun_mk (st := s_left_nest) l17 c17 k17
  have b17 := F17.binds (ps := ["nest", "words"]) fun _ _ _ _ _ _ us hl => by obtain ⟨_, _, rfl⟩ := len_2 hl; rfl
  have m17 := PySem.W.mg_of X G a17
  have F18 := fun_mk (st := s_left_parts) l18 c18 k18
  have b18 := F18.binds (ps := ["nest", "staying"]) fun _ _ _ _ _ _ us hl => by obtain ⟨_, _, rfl⟩ := len_2 hl; rfl
  have m18 := PySem.W.mg_of X G a18
  have F19 := fun_mk (st := s_knot_of) l19 c19 k19
  have b19 := F19.binds (ps := ["kind", "nests"]) fun _ _ _ _ _ _ us hl => by obtain ⟨_, _, rfl⟩ := len_2 hl; rfl
  have m19 := PySem.W.mg_of X G a19
  have F20 := fun_mk (st := s_cuts) l20 c20 k20
  have b20 := F20.binds (ps := ["order"]) fun _ _ _ _ _ _ us hl => by obtain ⟨_, rfl⟩ := len_1 hl; rfl
  have m20 := PySem.W.mg_of X G a20
  have F21 := fun_mk (st := s_nest_of) l21 c21 k21
  have b21 := F21.binds (ps := ["order"]) fun _ _ _ _ _ _ us hl => by obtain ⟨_, rfl⟩ := len_1 hl; rfl
  have m21 := PySem.W.mg_of X G a21
  have F22 := fun_mk (st := s_stretches) l22 c22 k22
  have b22 := F22.binds (ps := ["order", "places"]) fun _ _ _ _ _ _ us hl => by obtain ⟨_, _, rfl⟩ := len_2 hl; rfl
  have m22 := PySem.W.mg_of X G a22
  have F23 := fun_mk (st := s_bar_of) l23 c23 k23
  have b23 := F23.binds (ps := ["order"]) fun _ _ _ _ _ _ us hl => by obtain ⟨_, rfl⟩ := len_1 hl; rfl
  have m23 := PySem.W.mg_of X G a23
  have F24 := fun_mk (st := s_falling_bar) l24 c24 k24
  have b24 := F24.binds (ps := ["order"]) fun _ _ _ _ _ _ us hl => by obtain ⟨_, rfl⟩ := len_1 hl; rfl
  have m24 := PySem.W.mg_of X G a24
  have F25 := fun_mk (st := s_bar_around) l25 c25 k25
  have b25 := F25.binds (ps := ["order", "second", "third"]) fun _ _ _ _ _ _ us hl => by obtain ⟨_, _, _, rfl⟩ := len_3 hl; rfl
  have m25 := PySem.W.mg_of X G a25
  have F26 := fun_mk (st := s_law_mixed) l26 c26 k26
  have b26 := F26.binds (ps := ["cell", "k"]) fun _ _ _ _ _ _ us hl => by obtain ⟨_, _, rfl⟩ := len_2 hl; rfl
  have m26 := PySem.W.mg_of X G a26
  have F27 := fun_mk (st := s_law_put_in) l27 c27 k27
  have b27 := F27.binds (ps := ["order", "place", "word"]) fun _ _ _ _ _ _ us hl => by obtain ⟨_, _, _, rfl⟩ := len_3 hl; rfl
  have m27 := PySem.W.mg_of X G a27
  have F28 := fun_mk (st := s_law_without) l28 c28 k28
  have b28 := F28.binds (ps := ["order", "word"]) fun _ _ _ _ _ _ us hl => by obtain ⟨_, _, rfl⟩ := len_2 hl; rfl
  have m28 := PySem.W.mg_of X G a28
  have F29 := fun_mk (st := s_law_bar_good) l29 c29 k29
  have b29 := F29.binds (ps := ["order", "bar"]) fun _ _ _ _ _ _ us hl => by obtain ⟨_, _, rfl⟩ := len_2 hl; rfl
  have m29 := PySem.W.mg_of X G a29
  have F30 := fun_mk (st := s_law_either) l30 c30 k30
  have b30 := F30.binds (ps := ["order"]) fun _ _ _ _ _ _ us hl => by obtain ⟨_, rfl⟩ := len_1 hl; rfl
  have m30 := PySem.W.mg_of X G a30
  have F31 := fun_mk (st := s_law_gone) l31 c31 k31
  have b31 := F31.binds (ps := ["order", "word", "kept"]) fun _ _ _ _ _ _ us hl => by obtain ⟨_, _, _, rfl⟩ := len_3 hl; rfl
  have m31 := PySem.W.mg_of X G a31
  have F32 := fun_mk (st := s_law_next) l32 c32 k32
  have b32 := F32.binds (ps := ["order", "cell"]) fun _ _ _ _ _ _ us hl => by obtain ⟨_, _, rfl⟩ := len_2 hl; rfl
  have m32 := PySem.W.mg_of X G a32
  have F33 := fun_mk (st := s_law) l33 c33 k33
  have y0 := PySem.W.mg_none_of X G z0
  have y1 := PySem.W.mg_none_of X G z1
  have y2 := PySem.W.mg_none_of X G z2
  have y3 := PySem.W.mg_none_of X G z3
  have y4 := PySem.W.mg_none_of X G z4
  have y5 := PySem.W.mg_none_of X G z5
  have y6 := PySem.W.mg_none_of X G z6
  have y7 := PySem.W.mg_none_of X G z7
  have y8 := PySem.W.mg_none_of X G z8
  have y9 := PySem.W.mg_none_of X G z9
  have y10 := PySem.W.mg_none_of X G z10
  have y11 := PySem.W.mg_none_of X G z11
  have y12 := PySem.W.mg_none_of X G z12
  have y13 := PySem.W.mg_none_of X G z13
  have y14 := PySem.W.mg_none_of X G z14
  have y15 := PySem.W.mg_none_of X G z15
  have mNoWords := PySem.W.mg_of X G gNoWords
  have mNoOrder := PySem.W.mg_of X G gNoOrder
  have mNoNest := PySem.W.mg_of X G gNoNest
  have mM := PySem.W.mg_of X G gM
  have mB := PySem.W.mg_of X G gB
  have D_is_whole : Def K mg "is_whole" s_is_whole ["thing"] := ⟨f0, _, F0, k0, m0, b0⟩
  have D_are_different_below : Def K mg "are_different_below" s_are_different_below ["things", "bound"] := ⟨f1, _, F1, k1, m1, b1⟩
  have D_make_order : Def K mg "make_order" s_make_order ["numbers"] := ⟨f2, _, F2, k2, m2, b2⟩
  have D_mirror : Def K mg "mirror" s_mirror ["order"] := ⟨f3, _, F3, k3, m3, b3⟩
  have D_left_of : Def K mg "left_of" s_left_of ["order", "words"] := ⟨f4, _, F4, k4, m4, b4⟩
  have D_must_be_words : Def K mg "must_be_words" s_must_be_words ["words", "many"] := ⟨f5, _, F5, k5, m5, b5⟩
  have D_put_together : Def K mg "put_together" s_put_together ["order", "orders"] := ⟨f6, _, F6, k6, m6, b6⟩
  have D_must_fit : Def K mg "must_fit" s_must_fit ["sizes", "many"] := ⟨f7, _, F7, k7, m7, b7⟩
  have D_first_numbers : Def K mg "first_numbers" s_first_numbers ["orders"] := ⟨f8, _, F8, k8, m8, b8⟩
  have D_is_nest : Def K mg "is_nest" s_is_nest ["thing"] := ⟨f9, _, F9, k9, m9, b9⟩
  have D_is_knot : Def K mg "is_knot" s_is_knot ["thing"] := ⟨f10, _, F10, k10, m10, b10⟩
  have D_must_be_nest : Def K mg "must_be_nest" s_must_be_nest ["thing"] := ⟨f11, _, F11, k11, m11, b11⟩
  have D_is_of_kind : Def K mg "is_of_kind" s_is_of_kind ["nest", "kind"] := ⟨f12, _, F12, k12, m12, b12⟩
  have D_seen : Def K mg "seen" s_seen ["nest"] := ⟨f13, _, F13, k13, m13, b13⟩
  have D_order_of : Def K mg "order_of" s_order_of ["nest"] := ⟨f14, _, F14, k14, m14, b14⟩
  have D_count_words : Def K mg "count_words" s_count_words ["nest"] := ⟨f15, _, F15, k15, m15, b15⟩
  have D_shared_out : Def K mg "shared_out" s_shared_out ["nest", "things"] := ⟨f16, _, F16, k16, m16, b16⟩
  have D_left_nest : Def K mg "left_nest" s_left_nest ["nest", "words"] := ⟨f17, _, F17, k17, m17, b17⟩
  have D_left_parts : Def K mg "left_parts" s_left_parts ["nest", "staying"] := ⟨f18, _, F18, k18, m18, b18⟩
  have D_knot_of : Def K mg "knot_of" s_knot_of ["kind", "nests"] := ⟨f19, _, F19, k19, m19, b19⟩
  have D_cuts : Def K mg "cuts" s_cuts ["order"] := ⟨f20, _, F20, k20, m20, b20⟩
  have D_nest_of : Def K mg "nest_of" s_nest_of ["order"] := ⟨f21, _, F21, k21, m21, b21⟩
  have D_stretches : Def K mg "stretches" s_stretches ["order", "places"] := ⟨f22, _, F22, k22, m22, b22⟩
  have D_bar_of : Def K mg "bar_of" s_bar_of ["order"] := ⟨f23, _, F23, k23, m23, b23⟩
  have D_falling_bar : Def K mg "falling_bar" s_falling_bar ["order"] := ⟨f24, _, F24, k24, m24, b24⟩
  have D_bar_around : DefC K mg "bar_around" s_bar_around ["order", "second", "third"] ca := ⟨⟨f25, _, _, _, _, _, _, _, _, l25, c25, k25, m25, b25⟩⟩
  have D_law_mixed : Def K mg "_law_mixed" s_law_mixed ["cell", "k"] := ⟨f26, _, F26, k26, m26, b26⟩
  have D_law_put_in : Def K mg "_law_put_in" s_law_put_in ["order", "place", "word"] := ⟨f27, _, F27, k27, m27, b27⟩
  have D_law_without : Def K mg "_law_without" s_law_without ["order", "word"] := ⟨f28, _, F28, k28, m28, b28⟩
  have D_law_bar_good : Def K mg "_law_bar_good" s_law_bar_good ["order", "bar"] := ⟨f29, _, F29, k29, m29, b29⟩
  have D_law_either : Def K mg "_law_either" s_law_either ["order"] := ⟨f30, _, F30, k30, m30, b30⟩
  have D_law_gone : Def K mg "_law_gone" s_law_gone ["order", "word", "kept"] := ⟨f31, _, F31, k31, m31, b31⟩
  have D_law_next : Def K mg "_law_next" s_law_next ["order", "cell"] := ⟨f32, _, F32, k32, m32, b32⟩
  have T : Txt mg := ⟨⟨y0, y1, y2, y3, y4, y5, y6⟩, y7, y8, y9, y10, y11, y12, y13, y14, y15⟩
  have fin : ∀ base : Heap, BmAt mg base → PySem.W.CodeHd base ca tp → FnOk l.prog w K mg base CX0 66 fa _ ["script"] (spLaw K tp tq) := fun base BM CH =>
    have GM := has_must D_is_nest D_is_knot D_must_be_nest T mM mNoNest xNoNest
    have GW := has_make D_is_whole D_are_different_below D_make_order T mNoOrder xNoOrder mM
    have GF := has_left D_is_whole D_are_different_below D_left_of D_must_be_words T mNoWords xNoWords
    have GN := ok_nestof D_nest_of T mB (ok_cuts D_cuts T) (ok_stretches D_stretches T) GF 60
    have GR := ok_mirror D_mirror T
    have GB := ok_barof D_bar_of T (ok_falling D_falling_bar T (ok_around D_bar_around T BM CH etq)) GR
    have GS := ok_seen D_seen T GM (ok_orderof D_order_of T GR (has_put D_put_together D_first_numbers D_must_fit T mNoOrder xNoOrder mM) 60)
    have GL := ok_leftnest D_left_nest T GM (has_countw D_count_words T 60) (has_mbw D_is_whole D_are_different_below D_must_be_words T mNoWords xNoWords) (ok_leftparts D_left_parts T (has_countw D_count_words T) D_shared_out (ok_knotof D_knot_of T (ok_ofkind D_is_of_kind)) 60)
    have GX := ok_mixed D_law_mixed
    have GO := ok_without D_law_without T
    ok_law F33 T GW GO GX GF (ok_gone D_law_gone T GN GW GO GF GL) (ok_next D_law_next T GX (ok_putin D_law_put_in T)) (ok_either D_law_either T GN GB (ok_bargood D_law_bar_good T) GS)
  exact ⟨PySem.W.fnOf "law" "law" (defArgs s_law) (defBody s_law) (defScope s_law) .none kV33 dc33 pm33 an33 cd33 ct33, fun s v => .of_eq rfl, ⟨hKp, ca, hcp⟩, fun base hKb _ BM => fin base BM (PySem.W.codeHd_of_K hKb hcp)⟩
theorem walk {l : PySem.W.OpenLaw} {q : Program} {loose : List Str} {XP : (Str → Option Value) → Heap → Prop} {YP : World → Heap → Prop} {d : DefRec} {K : Params → PySem.W.Frag} {tp : Addr} {tq : Str} (hn : l.most = some 63) (hdf : d.params.defaults = [])
    (hY : ∀ (w : World) (h : Heap), YP w h → (K w.params).In h) (hT : ∀ (w : World) (h : Heap), YP w h → ∀ b ∈ [tp], h.get? b = some (PySem.W.tabObj #[]))
    (F : ∀ (w : World) (mg : Str → Option Value) (fa : Addr) (h : Heap), (K w.params).In h → h.Ns mainGlobals mg → mg d.name = some (.ref fa) → ∃ fd : FuncData, (∀ (s : Shared) (u : Value), BindsTo s fd ⟨[u], []⟩ [("script", u)]) ∧ ((K w.params).lookup tp = none ∧ ∃ c, PySem.W.codeHdIn (K w.params) c tp = true) ∧
      ∀ base : Heap, (K w.params).In base → base.Ns mainGlobals mg → BmAt mg base → FnOk l.prog w (K w.params) mg base CX0 66 fa fd ["script"] (spLaw (K w.params) tp tq)) :
    PySem.W.WalkO q loose XP YP l.row.toRowW d [] (fun f vs => PySem.call f vs) :=
  L2.walk_ofL (n := 63) (k := 66) (x := "script") (q := tq) (p := tp) (sp := fun w => spLaw (K w.params) tp tq) hn (by decide) hdf ⟨rfl, by decide, by decide, rfl⟩ hY hT F fun _ _ a ns hl hb hp hS => ⟨a, ns, rfl, hS, hl, hb, hp, fun _ s => ⟨rfl, s _ _ hp⟩⟩
end K83
open PySem PySem.W PyProof.Rows
set_option maxRecDepth 100000 in
set_option maxHeartbeats 0 in
theorem PySem.Challenge.cw_turnnest_k83_whole_changed_word_by_word_holds : PySem.Challenge.rw_turnnest_k83_whole_changed_word_by_word.Holds := by
  w_on; o_law; k_head; (case hw => w_witness2)
  k_fill
  refine K83.walk (l := PySem.Challenge.rw_turnnest_k83_whole_changed_word_by_word) (tq := "bar_around.<locals>.<lambda>") rfl rfl (fun w h Y => PySem.W.km_in_of Y) (fun w h Y => PySem.W.km_tabs_of Y) ?F
  case F =>
    intro w mg fa h KX G hmg
    refine' K83.all_mk rfl KX G hmg ?a0 ?l0 ?c0 ?k0 ?a1 ?l1 ?c1 ?k1 ?a2 ?l2 ?c2 ?k2 ?a3 ?l3 ?c3 ?k3 ?a4 ?l4 ?c4 ?k4 ?a5 ?l5 ?c5 ?k5 ?a6 ?l6 ?c6 ?k6 ?a7 ?l7 ?c7 ?k7 ?a8 ?l8 ?c8 ?k8 ?a9 ?l9 ?c9 ?k9 ?a10 ?l10 ?c10 ?k10 ?a11 ?l11 ?c11 ?k11 ?a12 ?l12 ?c12 ?k12 ?a13 ?l13 ?c13 ?k13 ?a14 ?l14 ?c14 ?k14 ?a15 ?l15 ?c15 ?k15 ?a16 ?l16 ?c16 ?k16 ?a17 ?l17 ?c17 ?k17 ?a18 ?l18 ?c18 ?k18 ?a19 ?l19 ?c19 ?k19 ?a20 ?l20 ?c20 ?k20 ?a21 ?l21 ?c21 ?k21 ?a22 ?l22 ?c22 ?k22 ?a23 ?l23 ?c23 ?k23 ?a24 ?l24 ?c24 ?k24 ?a25 ?l25 ?c25 ?k25 ?a26 ?l26 ?c26 ?k26 ?a27 ?l27 ?c27 ?k27 ?a28 ?l28 ?c28 ?k28 ?a29 ?l29 ?c29 ?k29 ?a30 ?l30 ?c30 ?k30 ?a31 ?l31 ?c31 ?k31 ?a32 ?l32 ?c32 ?k32 ?a33 ?l33 ?c33 ?k33 ?z0 ?z1 ?z2 ?z3 ?z4 ?z5 ?z6 ?z7 ?z8 ?z9 ?z10 ?z11 ?z12 ?z13 ?z14 ?z15 ?gNoWords ?xNoWords ?gNoOrder ?xNoOrder ?gNoNest ?xNoNest ?gM ?gB ?hKp ?hcp
    (case a0 => k_is)
    (case l0 => k_is)
    (case c0 => k_is)
    (case k0 => k_is)
    (case a1 => k_is)
    (case l1 => k_is)
    (case c1 => k_is)
    (case k1 => k_is)
    (case a2 => k_is)
    (case l2 => k_is)
    (case c2 => k_is)
    (case k2 => k_is)
    (case a3 => k_is)
    (case l3 => k_is)
    (case c3 => k_is)
    (case k3 => k_is)
    (case a4 => k_is)
    (case l4 => k_is)
    (case c4 => k_is)
    (case k4 => k_is)
    (case a5 => k_is)
    (case l5 => k_is)
    (case c5 => k_is)
    (case k5 => k_is)
    (case a6 => k_is)
    (case l6 => k_is)
    (case c6 => k_is)
    (case k6 => k_is)
    (case a7 => k_is)
    (case l7 => k_is)
    (case c7 => k_is)
    (case k7 => k_is)
    (case a8 => k_is)
    (case l8 => k_is)
    (case c8 => k_is)
    (case k8 => k_is)
    (case a9 => k_is)
    (case l9 => k_is)
    (case c9 => k_is)
    (case k9 => k_is)
    (case a10 => k_is)
    (case l10 => k_is)
    (case c10 => k_is)
    (case k10 => k_is)
    (case a11 => k_is)
    (case l11 => k_is)
    (case c11 => k_is)
    (case k11 => k_is)
    (case a12 => k_is)
    (case l12 => k_is)
    (case c12 => k_is)
    (case k12 => k_is)
    (case a13 => k_is)
    (case l13 => k_is)
    (case c13 => k_is)
    (case k13 => k_is)
    (case a14 => k_is)
    (case l14 => k_is)
    (case c14 => k_is)
    (case k14 => k_is)
    (case a15 => k_is)
    (case l15 => k_is)
    (case c15 => k_is)
    (case k15 => k_is)
    (case a16 => k_is)
    (case l16 => k_is)
    (case c16 => k_is)
    (case k16 => k_is)
    (case a17 => k_is)
    (case l17 => k_is)
    (case c17 => k_is)
    (case k17 => k_is)
    (case a18 => k_is)
    (case l18 => k_is)
    (case c18 => k_is)
    (case k18 => k_is)
    (case a19 => k_is)
    (case l19 => k_is)
    (case c19 => k_is)
    (case k19 => k_is)
    (case a20 => k_is)
    (case l20 => k_is)
    (case c20 => k_is)
    (case k20 => k_is)
    (case a21 => k_is)
    (case l21 => k_is)
    (case c21 => k_is)
    (case k21 => k_is)
    (case a22 => k_is)
    (case l22 => k_is)
    (case c22 => k_is)
    (case k22 => k_is)
    (case a23 => k_is)
    (case l23 => k_is)
    (case c23 => k_is)
    (case k23 => k_is)
    (case a24 => k_is)
    (case l24 => k_is)
    (case c24 => k_is)
    (case k24 => k_is)
    (case a25 => k_is)
    (case l25 => k_is)
    (case c25 => k_is)
    (case k25 => k_is)
    (case a26 => k_is)
    (case l26 => k_is)
    (case c26 => k_is)
    (case k26 => k_is)
    (case a27 => k_is)
    (case l27 => k_is)
    (case c27 => k_is)
    (case k27 => k_is)
    (case a28 => k_is)
    (case l28 => k_is)
    (case c28 => k_is)
    (case k28 => k_is)
    (case a29 => k_is)
    (case l29 => k_is)
    (case c29 => k_is)
    (case k29 => k_is)
    (case a30 => k_is)
    (case l30 => k_is)
    (case c30 => k_is)
    (case k30 => k_is)
    (case a31 => k_is)
    (case l31 => k_is)
    (case c31 => k_is)
    (case k31 => k_is)
    (case a32 => k_is)
    (case l32 => k_is)
    (case c32 => k_is)
    (case k32 => k_is)
    (case a33 => k_is)
    (case l33 => k_is)
    (case c33 => k_is)
    (case k33 => k_is)
    (case z0 => k_is)
    (case z1 => k_is)
    (case z2 => k_is)
    (case z3 => k_is)
    (case z4 => k_is)
    (case z5 => k_is)
    (case z6 => k_is)
    (case z7 => k_is)
    (case z8 => k_is)
    (case z9 => k_is)
    (case z10 => k_is)
    (case z11 => k_is)
    (case z12 => k_is)
    (case z13 => k_is)
    (case z14 => k_is)
    (case z15 => k_is)
    (case gNoWords => k_is)
    (case xNoWords => k_exc)
    (case gNoOrder => k_is)
    (case xNoOrder => k_exc)
    (case gNoNest => k_is)
    (case xNoNest => k_exc)
    (case gM => k_is)
    (case gB => k_is)
    (case hKp => first | kernel_rfl | rfl)
    (case hcp => first | kernel_rfl | rfl)
