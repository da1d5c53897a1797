import PyProof.Rows.All
import Wide.All
import OpenK.AllK
import Wide.FinOn
import Lean
import PyProof.EqAt
import PyProof.EqKinds
import PyProof.TupleCall
import PySem.Challenge.RW_undogates_k12_read_or_refused
import KE.KTryMore
import KE.RegKIsAll
set_option Elab.async false
set_option linter.all false
set_option maxRecDepth 100000
set_option maxHeartbeats 4000000
namespace L2
open PySem PySem.Spec PyProof.Rows
abbrev Key := Sum Int Str
def keyIs : Key → Value → Bool
  | .inl k, v => Value.isInt k v
  | .inr x, v => Value.isStrOf x v
def keyH (w : World) : Key → Int
  | .inl k => hashInt k
  | .inr x => hashStr w x
theorem keyIs_shape : ∀ {k : Key} {v : Value}, keyIs k v = true → (∃ i t, k = Sum.inl i ∧ v = Value.int i t) ∨ (∃ x t, k = Sum.inr x ∧ v = Value.str x t)
  | .inl i, v, h => by
    obtain ⟨t, e⟩ := Value.isInt_shape (k := i) (v := v) h
    exact .inl ⟨i, t, rfl, e⟩
  | .inr x, v, h => by
    obtain ⟨t, e⟩ := Value.isStrOf_shape (x := x) (v := v) h
    exact .inr ⟨x, t, rfl, e⟩
theorem key_ll (a b : Int) : decide ((Sum.inl a : Key) = Sum.inl b) = (a == b) := by
  by_cases e : a = b
  · subst e; simp
  · have h : ¬ (Sum.inl a : Key) = Sum.inl b := fun q => e (Sum.inl.inj q)
    rw [decide_eq_false h]
    exact (beq_eq_false_iff_ne.mpr e).symm
theorem key_rr (a b : Str) : decide ((Sum.inr a : Key) = Sum.inr b) = decide (a = b) := by
  by_cases e : a = b
  · subst e; simp
  · have h : ¬ (Sum.inr a : Key) = Sum.inr b := fun q => e (Sum.inr.inj q)
    rw [decide_eq_false h, decide_eq_false e]
theorem key_lr (a : Int) (b : Str) : decide ((Sum.inl a : Key) = Sum.inr b) = false := decide_eq_false (fun q => nomatch q)
theorem key_rl (a : Str) (b : Int) : decide ((Sum.inr a : Key) = Sum.inl b) = false := decide_eq_false (fun q => nomatch q)
def mixKind (prog : Program) (w : World) : PySem.KeyKind prog w Key where
  is := keyIs
  hash := keyH w
  inj := fun v a b ha hb => by
    rcases keyIs_shape ha with ⟨i, t, rfl, rfl⟩ | ⟨x, t, rfl, rfl⟩
    · rcases keyIs_shape hb with ⟨j, u, rfl, e⟩ | ⟨y, u, rfl, e⟩
      · injection e with e1 _; rw [e1]
      · exact nomatch e
    · rcases keyIs_shape hb with ⟨j, u, rfl, e⟩ | ⟨y, u, rfl, e⟩
      · exact nomatch e
      · injection e with e1 _; rw [e1]
  byValue := fun k v h => by
    rcases keyIs_shape h with ⟨i, t, rfl, rfl⟩ | ⟨x, t, rfl, rfl⟩ <;> rfl
  pyHash := fun hv h => by
    rcases keyIs_shape hv with ⟨i, t, rfl, rfl⟩ | ⟨x, t, rfl, rfl⟩
    · exact wpAny_pyHash_int h
    · exact wpAny_pyHash_str h
  eqBool := fun hu hv h => by
    rcases keyIs_shape hu with ⟨i, t, rfl, rfl⟩ | ⟨x, t, rfl, rfl⟩
    · rcases keyIs_shape hv with ⟨j, u, rfl, rfl⟩ | ⟨y, u, rfl, rfl⟩
      · rw [key_ll] at h; exact wpAny_eqBool_int h
      · rw [key_lr] at h; exact SeqAt.EqAt.int_str i t y u _ _ _ _ h
    · rcases keyIs_shape hv with ⟨j, u, rfl, rfl⟩ | ⟨y, u, rfl, rfl⟩
      · rw [key_rl] at h; exact SeqAt.EqAt.str_int x t j u _ _ _ _ h
      · rw [key_rr] at h; exact wpAny_eqBool_str h
  «strs» := fun k x t v h => by
    rcases keyIs_shape h with ⟨i, u, rfl, e⟩ | ⟨y, u, rfl, e⟩
    · exact nomatch e
    · injection e with e1 _
      subst e1
      cases v <;> rfl
end L2
namespace L2
open PySem PySem.Spec PyProof.Rows
inductive V where
  | non | bl (b : Bool) | int (i : Int) | str (x : Str) | byt (b : Array UInt8) | flt (b : UInt64) | ref (a : Addr) | ty (n : String)
  deriving DecidableEq
def RelV : V → Value → Prop
  | .non, u => u = Value.none
  | .bl b, u => u = Value.bool b
  | .int i, u => ∃ t, u = Value.int i t
  | .str x, u => ∃ t, u = Value.str x t
  | .byt b, u => ∃ t, u = Value.bytes b t
  | .flt b, u => ∃ t, u = Value.float b t
  | .ref a, u => u = Value.ref a
  | .ty n, u => u = Value.type n
abbrev Vals : List V → List Value → Prop := Paired RelV
theorem Vals.length {xs : List V} {us : List Value} (r : Vals xs us) : xs.length = us.length := Paired.length r
theorem Vals.get : ∀ {xs : List V} {us : List Value} {i : Nat} {x : V}, Vals xs us → xs[i]? = some x → ∃ u, us[i]? = some u ∧ RelV x u
  | _, _, _, _, .nil, e => by simp at e
  | _, _, 0, _, .cons r _, e => by simp at e; subst e; exact ⟨_, rfl, r⟩
  | _, _, i + 1, x, .cons _ t, e => by
    obtain ⟨u, h1, h2⟩ := Vals.get (i := i) (x := x) t (by simpa using e)
    exact ⟨u, by simpa using h1, h2⟩
theorem Vals.set {x : V} {u : Value} (r : RelV x u) : ∀ {xs : List V} {us : List Value} (i : Nat), Vals xs us → Vals (xs.set i x) (us.set i u)
  | _, _, _, .nil => .nil
  | _, _, 0, .cons _ t => .cons r t
  | _, _, i + 1, .cons q t => .cons q (Vals.set r i t)
theorem Vals.append : ∀ {xs ys : List V} {us ws : List Value}, Vals xs us → Vals ys ws → Vals (xs ++ ys) (us ++ ws)
  | _, _, _, _, .nil, s => s
  | _, _, _, _, .cons r t, s => .cons r (Vals.append t s)
theorem Vals.take : ∀ {xs : List V} {us : List Value} (n : Nat), Vals xs us → Vals (xs.take n) (us.take n)
  | _, _, 0, _ => .nil
  | _, _, _ + 1, .nil => .nil
  | _, _, n + 1, .cons r t => .cons r (Vals.take n t)
theorem Vals.drop : ∀ {xs : List V} {us : List Value} (n : Nat), Vals xs us → Vals (xs.drop n) (us.drop n)
  | _, _, 0, r => r
  | _, _, _ + 1, .nil => .nil
  | _, _, n + 1, .cons _ t => Vals.drop n t
theorem Vals.none_of : ∀ {xs : List V} {us : List Value} {i : Nat}, Vals xs us → xs[i]? = none → us[i]? = none := fun {xs us i} r e => by
  have h1 := r.length
  have h2 : xs.length ≤ i := List.getElem?_eq_none_iff.mp e
  exact List.getElem?_eq_none_iff.mpr (by omega)
def RelO : Option V → Option Value → Prop
  | some v, some u => RelV v u
  | none, none => True
  | _, _ => False
def KV {κ : Type} : List (κ × V) → List (κ × Value) → Prop := Paired fun (p : κ × V) (q : κ × Value) => p.1 = q.1 ∧ RelV p.2 q.2
def kV : Key → V
  | .inl i => .int i
  | .inr x => .str x
inductive HO where
  /-- a list -/
  | lst (xs : List V)
  /-- a tuple (never changes) -/
  | tup (xs : List V)
  /-- a dict whose keys are ints and texts; one whose keys are tuples of ints and texts (the empty one is both) -/
  | dK (kvs : List (Key × V)) | dT (kvs : List (List Key × V))
  /-- a set of ints: its members, its size -/
  | set (S : Int → Bool) (n : Nat)
  /-- an instance of the class at C, its dict at dx, its attributes -/
  | ins (C dx : Addr) (fs : List (Str × V))
  /-- the dict of the instance at x -/
  | own (x : Addr)
  /-- the dict of an exception -/
  | xd (fs : List (Str × V))
  /-- a bound method, f of x -/
  | met (f x : Addr)
  /-- a range object lo, lo + 1, .. below hi -/
  | rng (lo hi : Int)
  /-- a thing that is known to the object (the script; a dict while a loop walks it): read, never written while it is so -/
  | frz (o : Obj) (u : HO)
  /-- a code object's table -/
  | tbl (ps : Array Value)
  /-- any other thing, by what is true of its one object (a def of one's own: SetO a S n := HO.ext fun h => ..) -/
  | ext (φ : Heap → Prop)
abbrev Hp := Addr → Option HO
def upd (H : Hp) (a : Addr) (o : HO) : Hp := fun b => if b = a then some o else H b
theorem upd_same {H : Hp} {a : Addr} {o : HO} : upd H a o a = some o := by unfold upd; rw [if_pos rfl]
theorem upd_ne {H : Hp} {a b : Addr} {o : HO} (h : b ≠ a) : upd H a o b = H b := by unfold upd; rw [if_neg h]
theorem ne_of {H : Hp} {a b : Addr} {o u : HO} (h : H a = some o) (h' : H b = some u) (d : o ≠ u) : a ≠ b := by
  intro e; subst e; rw [h] at h'; exact d (Option.some.inj h')
theorem ne_of_none {H : Hp} {a b : Addr} {o : HO} (h : H a = some o) (h' : H b = none) : a ≠ b := by
  intro e; subst e; rw [h] at h'; cases h'
section
variable (P : Program) (w : World)
def ObjOk (H : Hp) (h : Heap) (a : Addr) : HO → Prop
  | .lst xs => xs.length ≤ sizeLine ∧ ∃ (its : List Value) (n : Nat), Vals xs its ∧ h.get? a = some { cls := .type "list", data := .seq its.toArray n }
  | .tup xs => xs.length ≤ sizeLine ∧ ∃ its : List Value, Vals xs its ∧ IsTup h a its.toArray
  | .dK kvs => kvs.length ≤ sizeLine ∧ (a == sysModules) = false ∧ ∃ vs, KV kvs vs ∧ h.DictOf (mixKind P w) a vs
  | .dT kvs => kvs.length ≤ sizeLine ∧ (a == sysModules) = false ∧ ∃ xs : List (List Key × Addr × Value),
      Paired (fun (p : List Key × V) (q : List Key × Addr × Value) => p.1 = q.1 ∧ H q.2.1 = some (.tup (p.1.map kV)) ∧ RelV p.2 q.2.2) kvs xs ∧
      ∃ o es ep, h.get? a = some o ∧ o.ExactDict ∧ o.data = .dict es ep ∧ es.toList = xs.map (entryOfKey (tupleKind (mixKind P w))) ∧ (xs.map (·.1)).Nodup
  | .set S n => h.SetOf (intKind P w) a S n
  | .ins C dx fs => H dx = some (.own a) ∧ fs.length ≤ 1000 ∧ dx ≠ a ∧ h.get? a = some (PySem.W.instObj C dx) ∧
      ∃ mA, h.Ns1 dx mA ∧ (∀ f, RelO (fs.lookup f) (mA f)) ∧ PySem.Within mA (fs.map (·.1))
  | .own _ => ∃ o, h.get? a = some o
  | .xd fs => ∃ mA, h.Ns1 a mA ∧ ∀ f, RelO (fs.lookup f) (mA f)
  | .rng lo hi => ∃ t u v, h.get? a = some { cls := .type "range", data := .fields #[.int lo t, .int hi u, .int 1 v] }
  | .frz o u => h.get? a = some o ∧ ObjOk H h a u
  | .tbl ps => h.get? a = some { cls := .none, data := .fields ps }
  | .met f x => h.get? a = some (PySem.W.methodObj (.ref f) (.ref x))
  | .ext φ => φ h ∧ (∃ o, h.get? a = some o) ∧ ∀ h1 h2 : Heap, φ h1 → (∀ o, h1.get? a = some o → h2.get? a = some o) → φ h2
def HOk (H : Hp) (h : Heap) : Prop := ∀ a o, H a = some o → ObjOk P w H h a o
end
section
variable {P : Program} {w : World} {H H' : Hp} {h h' : Heap} {a : Addr} {o : HO}
theorem ObjOk.lt (x : ObjOk P w H h a o) : a < h.objs.size := by
  cases o with
  | lst xs => obtain ⟨_, _, _, _, e⟩ := x; exact Heap.lt_size e
  | tup xs => obtain ⟨_, _, _, p⟩ := x; exact p.lt
  | dK kvs => obtain ⟨_, _, _, _, o, _, _, e, _⟩ := x; exact Heap.lt_size e
  | dT kvs => obtain ⟨_, _, _, _, o, _, _, e, _⟩ := x; exact Heap.lt_size e
  | set S n => obtain ⟨o, _, _, _, e, _⟩ := x; exact Heap.lt_size e
  | ins C dx fs => obtain ⟨_, _, _, e, _⟩ := x; exact Heap.lt_size e
  | own y => obtain ⟨_, e⟩ := x; exact Heap.lt_size e
  | xd fs => obtain ⟨_, ⟨_, _, _, e, _⟩, _⟩ := x; exact Heap.lt_size e
  | rng lo hi => obtain ⟨_, _, _, e⟩ := x; exact Heap.lt_size e
  | frz ob u => obtain ⟨e, _⟩ := x; exact Heap.lt_size e
  | tbl ps => exact Heap.lt_size (show h.get? a = some _ from x)
  | met f y => exact Heap.lt_size (show h.get? a = some _ from x)
  | ext φ => obtain ⟨_, ⟨_, e⟩, _⟩ := x; exact Heap.lt_size e
theorem Paired.mapP {α β : Type} {F G : α → β → Prop} : ∀ {l₁ : List α} {l₂ : List β}, Paired F l₁ l₂ → (∀ a b, F a b → G a b) → Paired G l₁ l₂
  | _, _, .nil, _ => .nil
  | _, _, .cons r t, f => .cons (f _ _ r) (Paired.mapP t f)
theorem ObjOk.stay (x : ObjOk P w H h a o) (k : ∀ b u, (b = a ∨ H b = some (.own a)) → h.get? b = some u → h'.get? b = some u)
    (ho : ∀ b, H b = some (.own a) → H' b = some (.own a)) (ht : ∀ b xs, H b = some (.tup xs) → H' b = some (.tup xs)) : ObjOk P w H' h' a o := by
  induction o with
  | lst xs => obtain ⟨z, its, n, r, e⟩ := x; exact ⟨z, its, n, r, k _ _ (.inl rfl) e⟩
  | tup xs => obtain ⟨z, its, r, ob, e, c⟩ := x; exact ⟨z, its, r, ob, k _ _ (.inl rfl) e, c⟩
  | dK kvs => obtain ⟨z, y, vs, r, ob, es, ep, e, c⟩ := x; exact ⟨z, y, vs, r, ob, es, ep, k _ _ (.inl rfl) e, c⟩
  | dT kvs =>
    obtain ⟨z, y, xs, r, ob, es, ep, e, c⟩ := x
    exact ⟨z, y, xs, Paired.mapP r fun p q z => ⟨z.1, ht _ _ z.2.1, z.2.2⟩, ob, es, ep, k _ _ (.inl rfl) e, c⟩
  | set S n => obtain ⟨ob, es, ep, t, e, c⟩ := x; exact ⟨ob, es, ep, t, k _ _ (.inl rfl) e, c⟩
  | ins C dx fs =>
    obtain ⟨d, z, ne, e, mA, ⟨od, es, ep, e2, c⟩, r⟩ := x
    exact ⟨ho _ d, z, ne, k _ _ (.inl rfl) e, mA, ⟨od, es, ep, k _ _ (.inr d) e2, c⟩, r⟩
  | own y => obtain ⟨ob, e⟩ := x; exact ⟨ob, k _ _ (.inl rfl) e⟩
  | xd fs => obtain ⟨mA, ⟨od, es, ep, e, c⟩, r⟩ := x; exact ⟨mA, ⟨od, es, ep, k _ _ (.inl rfl) e, c⟩, r⟩
  | rng lo hi => obtain ⟨t, u, v, e⟩ := x; exact ⟨t, u, v, k _ _ (.inl rfl) e⟩
  | frz ob u ih => obtain ⟨e, q⟩ := x; exact ⟨k _ _ (.inl rfl) e, ih q⟩
  | tbl ps =>
    have e : h.get? a = some { cls := .none, data := .fields ps } := x
    show h'.get? a = some { cls := .none, data := .fields ps }
    exact k a _ (.inl rfl) e
  | met f y =>
    have e : h.get? a = some (PySem.W.methodObj (.ref f) (.ref y)) := x
    show h'.get? a = some (PySem.W.methodObj (.ref f) (.ref y))
    exact k a _ (.inl rfl) e
  | ext φ => obtain ⟨p, ⟨o, e⟩, st⟩ := x; exact ⟨st _ _ p fun o q => k _ _ (.inl rfl) q, ⟨o, k _ _ (.inl rfl) e⟩, st⟩
theorem HOk.lt (x : HOk P w H h) (e : H a = some o) : a < h.objs.size := (x a o e).lt
theorem HOk.fresh (x : HOk P w H h) (e : h.objs.size ≤ a) : H a = none := by
  cases q : H a with
  | none => rfl
  | some u => exact absurd (Nat.lt_of_lt_of_le (x.lt q) e) (Nat.lt_irrefl _)
theorem HOk.kept (x : HOk P w H h) (k : ∀ b u, h.get? b = some u → h'.get? b = some u) : HOk P w H h' := fun a o e =>
  (x a o e).stay (fun b u _ q => k b u q) (fun _ q => q) fun _ _ q => q
theorem HOk.laid (x : HOk P w H h) (k : ∀ b u, h.get? b = some u → h'.get? b = some u) (hp : h.objs.size ≤ a) (new : ObjOk P w (upd H a o) h' a o) : HOk P w (upd H a o) h' := fun b u e => by
  have hn := x.fresh hp
  by_cases hb : b = a
  · subst hb; rw [upd_same] at e; cases e; exact new
  · rw [upd_ne hb] at e
    exact (x b u e).stay (fun c v _ q => k c v q) (fun c q => by rw [upd_ne (ne_of_none q hn)]; exact q) fun c xs q => by rw [upd_ne (ne_of_none q hn)]; exact q
end
def Rd (H : Hp) (a : Addr) (u : HO) : Prop := H a = some u ∨ ∃ o, H a = some (.frz o u)
theorem Rd.of {H : Hp} {a : Addr} {u : HO} (h : H a = some u) : Rd H a u := .inl h
theorem Rd.ok {P : Program} {w : World} {H : Hp} {h : Heap} {a : Addr} {u : HO} (r : Rd H a u) (x : HOk P w H h) : ObjOk P w H h a u := by
  rcases r with r | ⟨o, r⟩
  · exact x a u r
  · obtain ⟨_, q⟩ := x a _ r
    exact q
def Mut : Option HO → Prop
  | some (.lst _) => True
  | some (.dK _) => True
  | some (.dT _) => True
  | some (.set _ _) => True
  | some (.ins _ _ _) => True
  | some (.ext _) => True
  | _ => False
section
variable {P : Program} {w : World} {H : Hp} {h h' : Heap} {x e : Addr} {o' : HO}
theorem HOk.write (ok : HOk P w H h) (mu : Mut (H x)) (he : e = x ∨ H e = some (.own x)) (k : ∀ b u, b ≠ e → h.get? b = some u → h'.get? b = some u) (heo : ∃ u, h'.get? e = some u)
    (new : ObjOk P w (upd H x o') h' x o') : HOk P w (upd H x o') h' := fun b u q => by
  have nown : ∀ c y, H c = some (.own y) → c ≠ x := fun c y r z => by subst z; rw [r] at mu; exact mu
  have ntup : ∀ c xs, H c = some (.tup xs) → c ≠ x := fun c xs r z => by subst z; rw [r] at mu; exact mu
  by_cases hb : b = x
  · subst hb; rw [upd_same] at q; cases q; exact new
  · rw [upd_ne hb] at q
    by_cases hbe : b = e
    · have q' : H b = some (.own x) := by
        rcases he with z | z
        · exact absurd (hbe.trans z) hb
        · rw [hbe]; exact z
      rw [q] at q'; cases q'
      obtain ⟨v, hv⟩ := heo
      exact ⟨v, by rw [hbe]; exact hv⟩
    · refine (ok b u q).stay (fun c v hc r => k c v ?_ r) (fun c r => by rw [upd_ne (nown c b r)]; exact r) fun c xs r => by rw [upd_ne (ntup c xs r)]; exact r
      rcases hc with rfl | hc
      · exact hbe
      · rintro rfl
        rcases he with z | z
        · exact nown c b hc z
        · rw [hc] at z; cases z; exact hb rfl
end
structure Un (fs ex : List Addr) (H H' : Hp) (h h' : Heap) : Prop where
  keep : ∀ b o, h.get? b = some o → H b = none → b ∉ fs → b ∉ ex → h'.get? b = some o
  slot : ∀ b o, h.get? b = some o → H b = none → b ∈ fs → b ∉ ex → ∃ sl, h'.get? b = some { o with slots := sl }
  free : ∀ b o, h.get? b = some o → H b = none → b ∉ ex → H' b = none
  there : ∀ b o, h.get? b = some o → b ∉ ex → ∃ o', h'.get? b = some o'
  tups : ∀ b xs, H b = some (.tup xs) → H' b = some (.tup xs)
  frzs : ∀ b o u, H b = some (.frz o u) → H' b = some (.frz o u)
  tbls : ∀ b ps, H b = some (.tbl ps) → ∃ more, H' b = some (.tbl (ps ++ more))
section
variable {fs fs' ex ex' : List Addr} {H H1 H2 : Hp} {h h1 h2 h' : Heap} {a x e : Addr} {o : HO}
theorem Un.any (u : Un fs ex H H1 h h1) {b : Addr} {ob : Obj} (q : h.get? b = some ob) (n : H b = none) (hx : b ∉ ex) : ∃ sl, h1.get? b = some { ob with slots := sl } := by
  by_cases hb : b ∈ fs
  · exact u.slot b ob q n hb hx
  · exact ⟨ob.slots, u.keep b ob q n hb hx⟩
theorem Un.trans (a : Un fs ex H H1 h h1) (b : Un fs ex H1 H2 h1 h2) : Un fs ex H H2 h h2 where
  keep := fun c ob q n hc hx => b.keep c ob (a.keep c ob q n hc hx) (a.free c ob q n hx) hc hx
  slot := fun c ob q n hc hx => by
    obtain ⟨sl, e1⟩ := a.slot c ob q n hc hx
    obtain ⟨sl', e2⟩ := b.slot c _ e1 (a.free c ob q n hx) hc hx
    exact ⟨sl', e2⟩
  free := fun c ob q n hx => by
    obtain ⟨o', e1⟩ := a.there c ob q hx
    exact b.free c o' e1 (a.free c ob q n hx) hx
  there := fun c ob q hx => by
    obtain ⟨o', e1⟩ := a.there c ob q hx
    exact b.there c o' e1 hx
  tups := fun c xs q => b.tups c xs (a.tups c xs q)
  frzs := fun c ob xs q => b.frzs c ob xs (a.frzs c ob xs q)
  tbls := fun c ps q => by
    obtain ⟨m1, e1⟩ := a.tbls c ps q
    obtain ⟨m2, e2⟩ := b.tbls c _ e1
    exact ⟨m1 ++ m2, by rw [e2, Array.append_assoc]⟩
theorem Un.kept (k : ∀ b u, h.get? b = some u → h'.get? b = some u) : Un fs ex H H h h' :=
  ⟨fun b ob q _ _ _ => k b ob q, fun b ob q _ _ _ => ⟨ob.slots, k b ob q⟩, fun _ _ _ n _ => n, fun b ob q _ => ⟨ob, k b ob q⟩, fun _ _ q => q, fun _ _ _ q => q, fun _ ps q => ⟨#[], by rw [q]; simp⟩⟩
theorem Un.refl : Un fs ex H H h h := Un.kept fun _ _ q => q
theorem Un.laid (k : ∀ b u, h.get? b = some u → h'.get? b = some u) (hp : h.objs.size ≤ a) (hn : H a = none) : Un fs ex H (upd H a o) h h' where
  keep := fun b u q _ _ _ => k b u q
  slot := fun b u q _ _ _ => ⟨u.slots, k b u q⟩
  free := fun b u q n _ => by rw [upd_ne (Nat.ne_of_lt (Nat.lt_of_lt_of_le (Heap.lt_size q) hp))]; exact n
  there := fun b u q _ => ⟨u, k b u q⟩
  tups := fun b xs q => by rw [upd_ne (ne_of_none q hn)]; exact q
  frzs := fun b u xs q => by rw [upd_ne (ne_of_none q hn)]; exact q
  tbls := fun b ps q => ⟨#[], by rw [upd_ne (ne_of_none q hn), q]; simp⟩
theorem Un.write (mu : Mut (H x)) (he : e = x ∨ H e = some (.own x)) (k : ∀ b u, b ≠ e → h.get? b = some u → h'.get? b = some u) (heo : ∃ u, h'.get? e = some u) : Un fs ex H (upd H x o) h h' := by
  have hx : ∀ b, H b = none → b ≠ x := fun b n z => by subst z; rw [n] at mu; exact mu
  have hb : ∀ b, H b = none → b ≠ e := fun b n z => by
    subst z
    rcases he with r | r
    · exact hx b n r
    · rw [n] at r; cases r
  have hm : ∀ b u, H b = some u → ¬ Mut (some u) → b ≠ x := fun b u q nm z => by subst z; rw [q] at mu; exact nm mu
  refine ⟨fun b u q n _ _ => k b u (hb b n) q, fun b u q n _ _ => ⟨u.slots, k b u (hb b n) q⟩, fun b u q n _ => by rw [upd_ne (hx b n)]; exact n, fun b u q _ => ?_,
    fun b xs q => by rw [upd_ne (hm b _ q fun z => z)]; exact q, fun b u xs q => by rw [upd_ne (hm b _ q fun z => z)]; exact q, fun b ps q => ⟨#[], by rw [upd_ne (hm b _ q fun z => z), q]; simp⟩⟩
  by_cases hbe : b = e
  · subst hbe; exact heo
  · exact ⟨u, k b u hbe q⟩
theorem Un.mono (u : Un fs ex H H1 h h1) (hs : ∀ b ∈ fs, b ∈ fs') (hx : ∀ b ∈ ex, b ∈ ex') : Un fs' ex' H H1 h h1 :=
  ⟨fun b ob q n hb he => u.keep b ob q n (fun z => hb (hs b z)) fun z => he (hx b z), fun _ _ q n _ he => u.any q n fun z => he (hx _ z), fun b ob q n he => u.free b ob q n fun z => he (hx b z), fun b ob q he => u.there b ob q fun z => he (hx b z), u.tups, u.frzs, u.tbls⟩
end
def trk (h : Heap) (H : Hp) : List Addr := (List.range h.objs.size).filter fun a => (H a).isSome
def hidT (h : Heap) (H : Hp) : Heap := PySem.W.hideAll h (trk h H)
theorem hidT_size (h : Heap) (H : Hp) : (hidT h H).objs.size = h.objs.size := PySem.W.hideAll_size _ _
theorem hidT_get {h : Heap} {H : Hp} {b : Addr} {o : Obj} (e : h.get? b = some o) (n : H b = none) : (hidT h H).get? b = some o :=
  PySem.W.hideAll_get _ e fun hm => by
    have q : (H b).isSome = true := (List.mem_filter.mp hm).2
    rw [n] at q; simp at q
theorem of_hidT {h : Heap} {H : Hp} {b : Addr} {o : Obj} (e : (hidT h H).get? b = some o) : h.get? b = some o ∧ H b = none := by
  have e' : h.get? b = some o := PySem.W.of_hideAll (trk h H) e
  refine ⟨e', ?_⟩
  cases q : H b with
  | none => rfl
  | some x =>
    have hm : b ∈ trk h H := List.mem_filter.mpr ⟨List.mem_range.mpr (Heap.lt_size e'), by simp [q]⟩
    have z : (hidT h H).get? b = none := PySem.W.hideAll_none (trk h H) hm
    rw [z] at e; cases e
def allNews (g h : Heap) (L : Addr) : List (Addr × Obj) := (List.range h.objs.size).filterMap fun a => if a = L ∨ (g.get? a).isSome = true then none else (h.get? a).map fun o => (a, o)
def rest (g h : Heap) (L d : Addr) : List (Addr × Obj) := (allNews g h L).filter fun p => decide (p.1 ≠ d)
end L2
namespace L2
open PySem PySem.Spec PyProof.Rows
structure Mod (K : PySem.W.Frag) (mg : Str → Option Value) (base : Heap) : Prop where
  kin : K.In base
  glob : base.Ns mainGlobals mg
  blt : ∃ mb, base.Ns builtinsNs mb ∧ ∀ x : Str, x ≠ "__name__" → mb x = bootBuiltins x
  nolimit : base.NoLimit
/-- the context: a def's body (or a comprehension's block) running. base: fixed through the whole law; s₀, H₀: the entry; outer: the frames whose slots others may change (a def's callers); stack: all frames that run;
   ex: iterators that were made ahead of the entry and are walked here (a comprehension's); fn: the names whose cells were made at the entry (a def: all; a comprehension's block: its own); calm: not within an except suite; pn: pins that every state bears; xe: what is wanted of an exception that leaves the code -/
structure Cx where
  prog : Program
  w : World
  K : PySem.W.Frag
  mg : Str → Option Value
  base : Heap
  A : Around
  N : List Str
  s₀ : Shared
  H₀ : Hp
  env : Env
  outer : List Env
  stack : List Env
  ex : List Addr
  fn : Str → Bool
  calm : Bool
  pn : List (Addr × Obj)
  xe : Value → Shared → Prop
def frs (l : List Env) : List Addr := l.filterMap (·.frame)
abbrev Cx.fs (X : Cx) : List Addr := frs X.outer
def Vis (sc : Scope) (x : Str) : Prop := sc.names.lookup x = some .local ∨ sc.names.lookup x = some .cell ∨ sc.names.lookup x = some .free
def Loc (sc : Scope) (x : Str) : Prop := sc.names.lookup x = some .local ∨ sc.names.lookup x = some .cell
def Look (env : Env) (h : Heap) (m : Str → Option Value) (x : Str) (u : Value) : Prop :=
  (env.kindOf x = some .local ∧ m x = some u) ∨ ((env.kindOf x = some .cell ∨ env.kindOf x = some .free) ∧ ∃ c, env.cells.lookup x = some c ∧ h.IsCell c (some u))
structure Cx.Ok (X : Cx) : Prop where
  mod : Mod X.K X.mg X.base
  kind : X.env.scope.kind = .function
  glob : X.env.globals = mainGlobals
  blt : X.env.builtins = builtinsNs
  above : X.s₀.heap.objs.size ≤ X.env.locals
  inj : ∀ x y c, X.env.cells.lookup x = some c → X.env.cells.lookup y = some c → x = y
  has : ∀ x, (X.env.kindOf x = some .cell ∨ X.env.kindOf x = some .free) → ∃ c, X.env.cells.lookup x = some c
  cab : ∀ x c, X.fn x = true → X.env.cells.lookup x = some c → X.s₀.heap.objs.size ≤ c
  hd : X.calm = true → X.A.handled = none
  frames : X.A.frames = some X.stack
  stk : X.stack = X.outer ∨ (X.stack = X.env :: X.outer ∧ X.env.frame = some X.env.locals)
  exf : ∀ b ∈ X.ex, b ≠ X.env.locals ∧ ∀ x c, X.env.cells.lookup x = some c → c ≠ b
  bs : ∀ b o, X.base.get? b = some o → X.s₀.heap.get? b = some o ∧ X.H₀ b = none
  bsz : X.base.objs.size ≤ X.s₀.heap.objs.size
  noex : ∀ b o, X.base.get? b = some o → b ∉ X.ex
  exfs : ∀ b ∈ X.ex, b ∉ X.fs
  funs : X.s₀.heap.FunFrames X.base X.outer
  frf : ∀ b ∈ X.fs, X.H₀ b = none
structure Inv (X : Cx) (pins : List (Addr × Obj)) (σ : List (Option V)) (H : Hp) (s : Shared) : Prop where
  ok : X.Ok
  os : s.os = X.s₀.os
  bare : AllBare s.gens
  base : Un X.fs X.ex X.H₀ H X.s₀.heap s.heap
  loc : ∃ m, s.heap.Ns X.env.locals m ∧ ∀ (i : Nat) (x : Str) (v : V), X.N[i]? = some x → σ[i]? = some (some v) → Vis X.env.scope x → ∃ u, RelV v u ∧ Look X.env s.heap m x u
  cell : ∀ x c, X.env.cells.lookup x = some c → ∃ v, s.heap.IsCell c v
  free : H X.env.locals = none
  freeC : ∀ x c, X.env.cells.lookup x = some c → H c = none
  pin : ∀ p ∈ X.pn ++ pins, s.heap.get? p.1 = some p.2 ∧ H p.1 = none ∧ p.1 ≠ X.env.locals ∧ p.1 ∉ X.fs ∧ ∀ v, p.2.data ≠ .cell v
  hok : HOk X.prog X.w H s.heap
  len : σ.length = X.N.length
section
variable {X : Cx} {pins : List (Addr × Obj)} {σ : List (Option V)} {H H' : Hp} {s : Shared} {h' : Heap}
theorem Cx.Ok.nofr (ok : X.Ok) {b : Addr} {o : Obj} (e : X.base.get? b = some o) : b ∉ X.fs := fun hb => by
  have := (ok.funs.mem hb).1
  rw [e] at this; cases this
theorem Inv.bs (I : Inv X pins σ H s) : ∀ b o, X.base.get? b = some o → s.heap.get? b = some o ∧ H b = none := fun b o e =>
  ⟨I.base.keep b o (I.ok.bs b o e).1 (I.ok.bs b o e).2 (I.ok.nofr e) (I.ok.noex b o e), I.base.free b o (I.ok.bs b o e).1 (I.ok.bs b o e).2 (I.ok.noex b o e)⟩
theorem Inv.bk (I : Inv X pins σ H s) : ∀ b o, X.base.get? b = some o → s.heap.get? b = some o := fun b o e => (I.bs b o e).1
theorem Inv.mod (I : Inv X pins σ H s) : Mod X.K X.mg X.base := I.ok.mod
theorem Inv.kIn (I : Inv X pins σ H s) : X.K.In s.heap := I.ok.mod.kin.keeps I.bk
theorem Inv.nolimit (I : Inv X pins σ H s) : s.heap.NoLimit := I.ok.mod.nolimit.keeps I.bk
theorem Inv.fr (I : Inv X pins σ H s) : ∃ m, Fr X.base X.env.locals s.heap m :=
  let ⟨m, hn, _⟩ := I.loc
  ⟨m, hn, I.bk, Nat.le_trans I.ok.bsz I.ok.above⟩
theorem Inv.lt (I : Inv X pins σ H s) : X.env.locals < s.heap.objs.size := let ⟨_, hn, _⟩ := I.loc; hn.lt
theorem Inv.sz (I : Inv X pins σ H s) : X.s₀.heap.objs.size ≤ s.heap.objs.size := Nat.le_trans I.ok.above (Nat.le_of_lt I.lt)
theorem Inv.nofs (I : Inv X pins σ H s) {a : Addr} (h : s.heap.objs.size ≤ a) : a ∉ X.fs := fun hb => by
  obtain ⟨_, o, ho, _⟩ := I.ok.funs.mem hb
  exact absurd (Nat.lt_of_lt_of_le (Heap.lt_size ho) (Nat.le_trans I.sz h)) (Nat.lt_irrefl _)
theorem Inv.cne (I : Inv X pins σ H s) : ∀ x c, X.env.cells.lookup x = some c → c ≠ X.env.locals := fun x c e z => by
  obtain ⟨v, o, ho, hd⟩ := I.cell x c e
  obtain ⟨m, ⟨o', es, ep, ho', hd', _⟩, _⟩ := I.loc
  rw [z, ho'] at ho; cases ho; rw [hd'] at hd; cases hd
theorem Inv.funs (I : Inv X pins σ H s) : s.heap.FunFrames X.base X.outer := by
  have all : ∀ (l : List Env), (∀ b ∈ frs l, b ∈ X.fs) → X.s₀.heap.FunFrames X.base l → s.heap.FunFrames X.base l := by
    intro l
    induction l with
    | nil => intro _ _; trivial
    | cons env r ih =>
      intro hs hl
      obtain ⟨hk, ⟨L, o, hf, hn, ho, hd⟩, hr⟩ := hl
      have hL : L ∈ X.fs := hs L (by unfold frs; rw [List.filterMap_cons, hf]; exact List.mem_cons_self)
      obtain ⟨sl, e⟩ := I.base.slot L o ho (I.ok.frf L hL) hL fun z => I.ok.exfs L z hL
      exact ⟨hk, ⟨L, _, hf, hn, e, hd⟩, ih (fun b hb => hs b (by unfold frs; rw [List.filterMap_cons, hf]; exact List.mem_cons_of_mem _ hb)) hr⟩
  exact all X.outer (fun _ hb => hb) I.ok.funs
theorem Inv.stack (I : Inv X pins σ H s) : s.heap.FunFrames X.base X.stack := by
  rcases I.ok.stk with e | ⟨e, hf⟩
  · rw [e]; exact I.funs
  · rw [e]
    obtain ⟨m, hn, _⟩ := I.loc
    refine .cons (by rw [I.ok.kind]; decide) hf hn ?_ I.funs
    exact Heap.get?_none_of_le (Nat.le_trans I.ok.bsz I.ok.above)
theorem Inv.stkSub (I : Inv X pins σ H s) : ∀ b ∈ frs X.stack, b ∈ X.env.locals :: X.fs := fun b hb => by
  rcases I.ok.stk with e | ⟨e, hf⟩
  · rw [e] at hb; exact List.mem_cons_of_mem _ hb
  · rw [e] at hb
    unfold frs at hb
    rw [List.filterMap_cons, hf] at hb
    exact hb
theorem Inv.stkFree (I : Inv X pins σ H s) : ∀ b ∈ frs X.stack, H b = none := fun b hb => by
  rcases List.mem_cons.mp (I.stkSub b hb) with e | hb
  · rw [e]; exact I.free
  · obtain ⟨_, o, ho, _⟩ := I.ok.funs.mem hb
    exact I.base.free b o ho (I.ok.frf b hb) fun z => I.ok.exfs b z hb
theorem Inv.step {g' : Array GenState} {t' : Nat} {d' : Drawn} {ch : List Addr} (I : Inv X pins σ H s)
    (hch : ∀ b ∈ ch, (b ∈ X.ex ∨ X.s₀.heap.objs.size ≤ b) ∧ b ≠ X.env.locals ∧ (∀ x c, X.env.cells.lookup x = some c → c ≠ b) ∧ ∀ p ∈ X.pn ++ pins, p.1 ≠ b)
    (keep : ∀ b o, b ≠ X.env.locals → b ∉ X.fs → b ∉ ch → s.heap.get? b = some o → H b = none → h'.get? b = some o)
    (slot : ∀ b o, b ≠ X.env.locals → b ∈ X.fs → b ∉ ch → s.heap.get? b = some o → H b = none → ∃ sl, h'.get? b = some { o with slots := sl }) (free : ∀ b o, b ∉ ch → s.heap.get? b = some o → H b = none → H' b = none)
    (there : ∀ b o, b ∉ ch → s.heap.get? b = some o → ∃ o', h'.get? b = some o')
    (tups : ∀ b xs, H b = some (.tup xs) → H' b = some (.tup xs)) (frzs : ∀ b o u, H b = some (.frz o u) → H' b = some (.frz o u)) (tbls : ∀ b ps, H b = some (.tbl ps) → ∃ more, H' b = some (.tbl (ps ++ more)))
    (ns : ∀ m, s.heap.Ns X.env.locals m → h'.Ns X.env.locals m) (hok : HOk X.prog X.w H' h') (hg : AllBare g') :
    Inv X pins σ H' { s with heap := h', gens := g', drawn := d', toks := t' } := by
  have neL : ∀ b o, X.s₀.heap.get? b = some o → b ≠ X.env.locals := fun b o e => Nat.ne_of_lt (Nat.lt_of_lt_of_le (Heap.lt_size e) I.ok.above)
  have neC : ∀ b o, X.s₀.heap.get? b = some o → b ∉ X.ex → b ∉ ch := fun b o e hx hb => by
    rcases (hch b hb).1 with z | z
    · exact hx z
    · exact absurd (Nat.lt_of_lt_of_le (Heap.lt_size e) z) (Nat.lt_irrefl _)
  have cellK : ∀ x c, X.env.cells.lookup x = some c → ∀ v, s.heap.IsCell c v → h'.IsCell c v := fun x c e v ⟨o, ho, hd⟩ => by
    have nch : c ∉ ch := fun z => (hch c z).2.2.1 x c e rfl
    by_cases hc : c ∈ X.fs
    · obtain ⟨sl, q⟩ := slot c o (I.cne x c e) hc nch ho (I.freeC x c e)
      exact ⟨_, q, hd⟩
    · exact ⟨o, keep c o (I.cne x c e) hc nch ho (I.freeC x c e), hd⟩
  refine ⟨I.ok, I.os, hg, ⟨fun b o e n hb hx => ?_, fun b o e n hb hx => ?_, fun b o e n hx => ?_, fun b o e hx => ?_, fun b xs e => tups b xs (I.base.tups b xs e), fun b o xs e => frzs b o xs (I.base.frzs b o xs e), fun b ps e => ?_⟩, ?_, fun x c e => ?_, ?_, fun x c e => ?_, fun p hp => ?_, hok, I.len⟩
  · exact keep b o (neL b o e) hb (neC b o e hx) (I.base.keep b o e n hb hx) (I.base.free b o e n hx)
  · obtain ⟨sl, e1⟩ := I.base.slot b o e n hb hx
    obtain ⟨sl', e2⟩ := slot b _ (neL b o e) hb (neC b o e hx) e1 (I.base.free b o e n hx)
    exact ⟨sl', e2⟩
  · obtain ⟨o', e1⟩ := I.base.there b o e hx
    exact free b o' (neC b o e hx) e1 (I.base.free b o e n hx)
  · obtain ⟨o', e1⟩ := I.base.there b o e hx
    exact there b o' (neC b o e hx) e1
  · obtain ⟨m1, e1⟩ := I.base.tbls b ps e
    obtain ⟨m2, e2⟩ := tbls b _ e1
    exact ⟨m1 ++ m2, by rw [e2, Array.append_assoc]⟩
  · obtain ⟨m, hn, hl⟩ := I.loc
    refine ⟨m, ns m hn, fun i x v e1 e2 e3 => ?_⟩
    obtain ⟨u, r, l⟩ := hl i x v e1 e2 e3
    refine ⟨u, r, ?_⟩
    rcases l with l | ⟨k, c, e, z⟩
    · exact .inl l
    · exact .inr ⟨k, c, e, cellK x c e _ z⟩
  · obtain ⟨v, z⟩ := I.cell x c e
    exact ⟨v, cellK x c e v z⟩
  · obtain ⟨m, ⟨o, _, _, ho, _⟩, _⟩ := I.loc
    exact free _ o (fun z => (hch _ z).2.1 rfl) ho I.free
  · obtain ⟨v, o, ho, hd⟩ := I.cell x c e
    exact free c o (fun z => (hch c z).2.2.1 x c e rfl) ho (I.freeC x c e)
  · obtain ⟨e, n, ne, nf, d⟩ := I.pin p hp
    have nch : p.1 ∉ ch := fun z => (hch p.1 z).2.2.2 p hp rfl
    exact ⟨keep p.1 p.2 ne nf nch e n, free p.1 p.2 nch e n, ne, nf, d⟩
theorem Inv.un {t' : Nat} (I : Inv X pins σ H s) (u : Un X.fs [] H H' s.heap h') (hok : HOk X.prog X.w H' h') : Inv X pins σ H' { s with heap := h', toks := t' } := by
  obtain ⟨m, ⟨o, es, ep, ho, r⟩, _⟩ := id I.loc
  obtain ⟨sl, hL⟩ := u.any ho I.free (by simp)
  exact I.step (g' := s.gens) (d' := s.drawn) (ch := []) (fun _ z => nomatch z) (fun b o _ hb _ e n => u.keep b o e n hb (by simp)) (fun b o _ hb _ e n => u.slot b o e n hb (by simp)) (fun b o _ e n => u.free b o e n (by simp)) (fun b o _ e => u.there b o e (by simp)) u.tups u.frzs u.tbls (fun m' hm => by
    obtain ⟨o', es', ep', ho', r'⟩ := hm
    rw [ho] at ho'; cases ho'
    exact ⟨_, es', ep', hL, r'⟩) hok I.bare
theorem Inv.call {g' : Array GenState} {t' : Nat} {d' : Drawn} {ch : List Addr} (I : Inv X pins σ H s) (u : Un (frs X.stack) ch H H' s.heap h') (hok : HOk X.prog X.w H' h') (hg : AllBare g')
    (hch : ∀ b ∈ ch, (b ∈ X.ex ∨ X.s₀.heap.objs.size ≤ b) ∧ b ≠ X.env.locals ∧ (∀ x c, X.env.cells.lookup x = some c → c ≠ b) ∧ ∀ p ∈ X.pn ++ pins, p.1 ≠ b) :
    Inv X pins σ H' { s with heap := h', gens := g', drawn := d', toks := t' } := by
  obtain ⟨m, ⟨o, es, ep, ho, r⟩, _⟩ := id I.loc
  obtain ⟨sl, hL⟩ := u.any ho I.free fun z => (hch _ z).2.1 rfl
  exact I.step (ch := ch) hch (fun b o hL hb hc e n => u.keep b o e n (fun z => (List.mem_cons.mp (I.stkSub b z)).elim hL hb) hc) (fun b o _ _ hc e n => u.any e n hc) (fun b o hc e n => u.free b o e n hc) (fun b o hc e => u.there b o e hc) u.tups u.frzs u.tbls (fun m' hm => by
    obtain ⟨o', es', ep', ho', r'⟩ := hm
    rw [ho] at ho'; cases ho'
    exact ⟨_, es', ep', hL, r'⟩) hok hg
theorem Inv.turned {t' : Nat} {it : Addr} (I : Inv X pins σ H s) (k : ∀ b o, b ≠ it → s.heap.get? b = some o → h'.get? b = some o) (hn : H it = none) (hL : it ≠ X.env.locals)
    (h1 : it ∈ X.ex ∨ X.s₀.heap.objs.size ≤ it) (h2 : ∀ x c, X.env.cells.lookup x = some c → c ≠ it) (h3 : ∀ p ∈ X.pn ++ pins, p.1 ≠ it) : Inv X pins σ H { s with heap := h', toks := t' } := by
  have nit : ∀ b u, H b = some u → b ≠ it := fun b u e z => by rw [z, hn] at e; cases e
  refine I.step (g' := s.gens) (d' := s.drawn) (ch := [it]) (fun b hb => ?_) (fun b o _ _ hc e _ => k b o (fun z => hc (by simp [z])) e) (fun b o _ _ hc e _ => ⟨o.slots, k b o (fun z => hc (by simp [z])) e⟩) (fun _ _ _ _ n => n)
    (fun b o hc e => ⟨o, k b o (fun z => hc (by simp [z])) e⟩) (fun _ _ e => e) (fun _ _ _ e => e) (fun b ps e => ⟨#[], by rw [e]; simp⟩) (fun m hm => ?_) (fun b u e => ?_) I.bare
  · have e : b = it := by simpa using hb
    subst e
    exact ⟨h1, hL, h2, h3⟩
  · obtain ⟨o, es, ep, ho, r⟩ := hm
    exact ⟨o, es, ep, k _ o (Ne.symm hL) ho, r⟩
  · refine (I.hok b u e).stay (fun c v hc q => k c v ?_ q) (fun _ q => q) fun _ _ q => q
    rcases hc with z | z
    · rw [z]; exact nit b u e
    · exact nit c _ z
theorem Inv.tok (I : Inv X pins σ H s) (t : Nat) : Inv X pins σ H { s with toks := t } := I.un (h' := s.heap) (t' := t) Un.refl I.hok
theorem Inv.kept {t' : Nat} (I : Inv X pins σ H s) (k : ∀ b u, s.heap.get? b = some u → h'.get? b = some u) : Inv X pins σ H { s with heap := h', toks := t' } := I.un (Un.kept k) (I.hok.kept k)
theorem Inv.laid {a : Addr} {o : HO} {t' : Nat} (I : Inv X pins σ H s) (k : ∀ b u, s.heap.get? b = some u → h'.get? b = some u) (hp : s.heap.objs.size ≤ a) (new : ObjOk X.prog X.w (upd H a o) h' a o) :
    Inv X pins σ (upd H a o) { s with heap := h', toks := t' } := I.un (Un.laid k hp (I.hok.fresh hp)) (I.hok.laid k hp new)
theorem Inv.write {x e : Addr} {o : HO} {t' : Nat} (I : Inv X pins σ H s) (mu : Mut (H x)) (he : e = x ∨ H e = some (.own x)) (k : ∀ b u, b ≠ e → s.heap.get? b = some u → h'.get? b = some u) (heo : ∃ u, h'.get? e = some u)
    (new : ObjOk X.prog X.w (upd H x o) h' x o) : Inv X pins σ (upd H x o) { s with heap := h', toks := t' } := I.un (Un.write mu he k heo) (I.hok.write mu he k heo new)
theorem Inv.weak {σ' : List (Option V)} (I : Inv X pins σ H s) (hl : σ'.length = σ.length) (w : ∀ (i : Nat) v, σ'[i]? = some (some v) → σ[i]? = some (some v)) : Inv X pins σ' H s :=
  ⟨I.ok, I.os, I.bare, I.base, let ⟨m, hn, hl'⟩ := I.loc; ⟨m, hn, fun i x v e1 e2 e3 => hl' i x v e1 (w i v e2) e3⟩, I.cell, I.free, I.freeC, I.pin, I.hok, hl.trans I.len⟩
theorem Inv.pins_of {pins' : List (Addr × Obj)} (I : Inv X pins σ H s) (h : ∀ p ∈ pins', s.heap.get? p.1 = some p.2 ∧ H p.1 = none ∧ p.1 ≠ X.env.locals ∧ p.1 ∉ X.fs ∧ ∀ v, p.2.data ≠ .cell v) : Inv X pins' σ H s :=
  ⟨I.ok, I.os, I.bare, I.base, I.loc, I.cell, I.free, I.freeC, fun p hp => (List.mem_append.mp hp).elim (fun z => I.pin p (List.mem_append_left _ z)) (h p), I.hok, I.len⟩
theorem nodup_ix {N : List Str} (hN : N.Nodup) {i j : Nat} {x : Str} (a : N[i]? = some x) (b : N[j]? = some x) : i = j := by
  obtain ⟨h1, e1⟩ := List.getElem?_eq_some_iff.mp a
  obtain ⟨h2, e2⟩ := List.getElem?_eq_some_iff.mp b
  exact (List.getElem_inj hN).mp (e1.trans e2.symm)
theorem store_ok2 {M : Model} {A : Around} {E : Value → Shared → Prop} {i : Nat} {x : Str} {v : V} {u : Value} {Q : Unit → Shared → Prop} (I : Inv X pins σ H s) (hN : X.N.Nodup) (hi : X.N[i]? = some x) (hx : Loc X.env.scope x) (r : RelV v u)
    (h : ∀ s', Inv X pins (σ.set i (some v)) H s' → (∃ a, Heap.SameBut a s.heap s'.heap ∧ (a = X.env.locals ∨ X.env.cells.lookup x = some a)) → Q () s') (hf : X.fn x = true ∨ X.env.scope.names.lookup x = some .local := by first | exact .inl rfl | exact .inr rfl | assumption) : wpAny M A (storeName X.env x u) Q E s := by
  obtain ⟨m, hn, hl⟩ := id I.loc
  have hcls : (X.env.scope.kind == .class || (X.env.scope.kind == .module && X.env.locals != X.env.globals)) = false := by rw [I.ok.kind]; rfl
  have hiσ : i < σ.length := by rw [I.len]; exact (List.getElem?_eq_some_iff.mp hi).1
  have cne := I.cne
  have tracked : ∀ {a : Addr} {h' : Heap}, (∃ o, s.heap.get? a = some o ∧ H a = none) → Heap.SameBut a s.heap h' → HOk X.prog X.w H h' := fun {a h'} ha hs b ob e => by
    obtain ⟨_, _, hfree⟩ := ha
    refine (I.hok b ob e).stay (fun c w' hc q => (hs.2 c ?_).trans q) (fun _ q => q) fun _ _ q => q
    rintro rfl
    rcases hc with rfl | hc
    · rw [hfree] at e; cases e
    · rw [hfree] at hc; cases hc
  rcases hx with hk | hk
  · refine wpAny_storeName_local hk hn (fun h' hn' hs => ?_) hcls
    obtain ⟨oL, _, _, hoL, _⟩ := id hn
    refine h _ ⟨I.ok, I.os, I.bare, ⟨fun b o e n hb hx => ?_, fun b o e n hb hx => ?_, I.base.free, fun b o e hx => ?_, I.base.tups, I.base.frzs, I.base.tbls⟩, ⟨_, hn', fun j y v' e1 e2 e3 => ?_⟩, fun y c e => ?_, I.free, I.freeC, fun p hp => ?_, tracked ⟨oL, hoL, I.free⟩ hs, by simpa using I.len⟩ ⟨_, hs, .inl rfl⟩
    · exact (hs.2 b (Nat.ne_of_lt (Nat.lt_of_lt_of_le (Heap.lt_size e) I.ok.above))).trans (I.base.keep b o e n hb hx)
    · obtain ⟨sl, e1⟩ := I.base.slot b o e n hb hx
      exact ⟨sl, (hs.2 b (Nat.ne_of_lt (Nat.lt_of_lt_of_le (Heap.lt_size e) I.ok.above))).trans e1⟩
    · obtain ⟨o', e1⟩ := I.base.there b o e hx
      exact ⟨o', (hs.2 b (Nat.ne_of_lt (Nat.lt_of_lt_of_le (Heap.lt_size e) I.ok.above))).trans e1⟩
    · by_cases hj : j = i
      · subst hj
        rw [hi] at e1; cases e1
        rw [List.getElem?_set_self hiσ] at e2
        cases e2
        exact ⟨u, r, .inl ⟨hk, by simp⟩⟩
      · rw [List.getElem?_set_ne (Ne.symm hj)] at e2
        obtain ⟨u', r', q⟩ := hl j y v' e1 e2 e3
        refine ⟨u', r', ?_⟩
        rcases q with ⟨k, e⟩ | ⟨k, c, e, z⟩
        · refine .inl ⟨k, ?_⟩
          have : y ≠ x := fun e => hj (nodup_ix hN e1 (e ▸ hi))
          simp [this, e]
        · exact .inr ⟨k, c, e, z.sameBut hs (cne y c e)⟩
    · obtain ⟨w', z⟩ := I.cell y c e
      exact ⟨w', z.sameBut hs (cne y c e)⟩
    · obtain ⟨e, n, ne, nf, d⟩ := I.pin p hp
      exact ⟨(hs.2 p.1 ne).trans e, n, ne, nf, d⟩
  · have hfn : X.fn x = true := by
      rcases hf with z | z
      · exact z
      · rw [z] at hk; cases hk
    obtain ⟨c, hc⟩ := I.ok.has x (.inl hk)
    obtain ⟨w', z⟩ := I.cell x c hc
    refine wpAny_storeName_cell I.ok.kind hk hc z (fun h' hc' hs => ?_)
    obtain ⟨oc, hoc, hocd⟩ := id z
    refine h { s with heap := h' } ⟨I.ok, I.os, I.bare, ⟨fun b o e n hb hx => ?_, fun b o e n hb hx => ?_, I.base.free, fun b o e hx => ?_, I.base.tups, I.base.frzs, I.base.tbls⟩, ⟨m, hn.sameBut hs (Ne.symm (cne x c hc)), fun j y v' e1 e2 e3 => ?_⟩, fun y c' e => ?_, I.free, I.freeC, fun p hp => ?_, tracked ⟨oc, hoc, I.freeC x c hc⟩ hs, by simpa using I.len⟩ ⟨c, hs, .inr hc⟩
    · exact (hs.2 b (Nat.ne_of_lt (Nat.lt_of_lt_of_le (Heap.lt_size e) (I.ok.cab x c hfn hc)))).trans (I.base.keep b o e n hb hx)
    · obtain ⟨sl, e1⟩ := I.base.slot b o e n hb hx
      exact ⟨sl, (hs.2 b (Nat.ne_of_lt (Nat.lt_of_lt_of_le (Heap.lt_size e) (I.ok.cab x c hfn hc)))).trans e1⟩
    · obtain ⟨o', e1⟩ := I.base.there b o e hx
      exact ⟨o', (hs.2 b (Nat.ne_of_lt (Nat.lt_of_lt_of_le (Heap.lt_size e) (I.ok.cab x c hfn hc)))).trans e1⟩
    · by_cases hj : j = i
      · subst hj
        rw [hi] at e1; cases e1
        rw [List.getElem?_set_self hiσ] at e2
        cases e2
        exact ⟨u, r, .inr ⟨.inl hk, c, hc, hc'⟩⟩
      · rw [List.getElem?_set_ne (Ne.symm hj)] at e2
        obtain ⟨u', r', q⟩ := hl j y v' e1 e2 e3
        refine ⟨u', r', ?_⟩
        rcases q with q | ⟨k, c', e, z'⟩
        · exact .inl q
        · refine .inr ⟨k, c', e, z'.sameBut hs ?_⟩
          rintro rfl
          exact hj (nodup_ix hN e1 (I.ok.inj _ _ _ e hc ▸ hi))
    · by_cases hcc : c' = c
      · subst hcc; exact ⟨_, hc'⟩
      · obtain ⟨w2, z2⟩ := I.cell y c' e
        exact ⟨w2, z2.sameBut hs hcc⟩
    · obtain ⟨e, n, ne, nf, d⟩ := I.pin p hp
      refine ⟨(hs.2 p.1 ?_).trans e, n, ne, nf, d⟩
      intro q
      rw [q, hoc] at e
      have q' : oc = p.2 := Option.some.inj e
      exact d w' (by rw [← q']; exact hocd)
theorem store_ok {M : Model} {A : Around} {E : Value → Shared → Prop} {i : Nat} {x : Str} {v : V} {u : Value} {Q : Unit → Shared → Prop} (I : Inv X pins σ H s) (hN : X.N.Nodup) (hi : X.N[i]? = some x) (hx : Loc X.env.scope x) (r : RelV v u)
    (h : ∀ s', Inv X pins (σ.set i (some v)) H s' → Q () s') (hf : X.fn x = true ∨ X.env.scope.names.lookup x = some .local := by first | exact .inl rfl | exact .inr rfl | assumption) : wpAny M A (storeName X.env x u) Q E s :=
  store_ok2 I hN hi hx r (fun s' I' _ => h s' I') hf
theorem Inv.call' {s' : Shared} {ch : List Addr} (I : Inv X pins σ H s) (ho : s'.os = s.os) (u : Un (frs X.stack) ch H H' s.heap s'.heap) (hok : HOk X.prog X.w H' s'.heap) (hg : AllBare s'.gens)
    (hch : ∀ b ∈ ch, (b ∈ X.ex ∨ X.s₀.heap.objs.size ≤ b) ∧ b ≠ X.env.locals ∧ (∀ x c, X.env.cells.lookup x = some c → c ≠ b) ∧ ∀ p ∈ X.pn ++ pins, p.1 ≠ b) : Inv X pins σ H' s' := by
  obtain ⟨h', g', d', t', o'⟩ := s'
  have e : o' = s.os := ho
  subst e
  exact I.call (g' := g') (t' := t') (d' := d') u hok hg hch
end
abbrev XK := Value → Option Addr → Hp → Prop
abbrev St := List (Option V)
abbrev VK := V → Hp → Prop
abbrev TE := St → Hp → VK → Prop
abbrev TT := St → Hp → (Bool → Hp → Prop) → Prop
abbrev TA := St → Hp → (List V → Hp → Prop) → Prop
structure Ends where
  nx : St → Hp → Prop
  rt : VK
  bk : St → Hp → Prop := fun _ _ => False
  ct : St → Hp → Prop := fun _ _ => False
abbrev TS := Ends → St → Hp → Prop
def EP (X : Cx) (pins : List (Addr × Obj)) (σ : St) (Q : VK) (u : Value) (s' : Shared) : Prop := ∃ v H', Inv X pins σ H' s' ∧ RelV v u ∧ Q v H'
def TP (X : Cx) (pins : List (Addr × Obj)) (σ : St) (Q : Bool → Hp → Prop) (b : Bool) (s' : Shared) : Prop := ∃ H', Inv X pins σ H' s' ∧ Q b H'
def AP (X : Cx) (pins : List (Addr × Obj)) (σ : St) (Q : List V → Hp → Prop) (us : List Value) (s' : Shared) : Prop := ∃ vs H', Inv X pins σ H' s' ∧ Vals vs us ∧ Q vs H'
def SP (X : Cx) (pins : List (Addr × Obj)) (D : Ends) (f : Flow) (s' : Shared) : Prop :=
  match f with
  | .next => ∃ σ' H', Inv X pins σ' H' s' ∧ D.nx σ' H'
  | .brk => ∃ σ' H', Inv X pins σ' H' s' ∧ D.bk σ' H'
  | .cont => ∃ σ' H', Inv X pins σ' H' s' ∧ D.ct σ' H'
  | .ret u => ∃ v σ' H', Inv X pins σ' H' s' ∧ RelV v u ∧ D.rt v H'
def PE (X : Cx) (e : Expr) (t : TE) : Prop :=
  ∀ (pins : List (Addr × Obj)) (s : Shared) (σ : St) (H : Hp) (Q : VK), Inv X pins σ H s → t σ H Q → wpAny (model X.prog X.w) X.A (eval e X.env) (EP X pins σ Q) X.xe s
def PT (X : Cx) (e : Expr) (t : TT) : Prop :=
  ∀ (pins : List (Addr × Obj)) (s : Shared) (σ : St) (H : Hp) (Q : Bool → Hp → Prop), Inv X pins σ H s → t σ H Q → wpAny (model X.prog X.w) X.A (isTrue e X.env (eval e X.env)) (TP X pins σ Q) X.xe s
def PW (X : Cx) (e : Expr) (t : TT) : Prop :=
  ∀ (whole : Sem Value) (pins : List (Addr × Obj)) (s : Shared) (σ : St) (H : Hp) (Q : Bool → Hp → Prop), Inv X pins σ H s → t σ H Q → wpAny (model X.prog X.w) X.A (isTrue e X.env whole) (TP X pins σ Q) X.xe s
theorem PW.pt {X : Cx} {e : Expr} {t : TT} (h : PW X e t) : PT X e t := h _
def PA (X : Cx) (es : List Expr) (t : TA) : Prop :=
  ∀ (pos : Pos) (pins : List (Addr × Obj)) (s : Shared) (σ : St) (H : Hp) (Q : List V → Hp → Prop), Inv X pins σ H s → t σ H Q → wpAny (model X.prog X.w) X.A (spliced (backTo pos (starEach es X.env))) (AP X pins σ Q) X.xe s
def PS (X : Cx) (st : Stmt) (t : TS) : Prop :=
  ∀ (pins : List (Addr × Obj)) (s : Shared) (σ : St) (H : Hp) (D : Ends), Inv X pins σ H s → t D σ H → wpAny (model X.prog X.w) X.A (exec st X.env) (SP X pins D) X.xe s
def PSs (X : Cx) (st : List Stmt) (t : TS) : Prop :=
  ∀ (pins : List (Addr × Obj)) (s : Shared) (σ : St) (H : Hp) (D : Ends), Inv X pins σ H s → t D σ H → wpAny (model X.prog X.w) X.A (execs st X.env) (SP X pins D) X.xe s
theorem thn {α : Type} {t : Sem α} {Q Q' : α → Shared → Prop} {M : Model} {A : Around} {E : Value → Shared → Prop} {s : Shared} (h : wpAny M A t Q E s) (hQ : ∀ a s, Q a s → Q' a s) : wpAny M A t Q' E s := wpAny_mono h hQ fun _ _ x => x
end L2
namespace L2
open PySem PySem.Spec PyProof.Rows
section
variable {X : Cx}
def tVar (i : Nat) : TE := fun σ H Q => ∃ v, σ[i]? = some (some v) ∧ Q v H
def tC (v : V) : TE := fun _ H Q => Q v H
theorem pe_var {i : Nat} {x : Str} {pos : Pos} (hN : X.N[i]? = some x) (hv : Vis X.env.scope x) (hd : (x == ("__debug__" : Str)) = false := by decide) (hcd : (x == ("__classdict__" : Str)) = false := by decide) : PE X (.Name x pos) (tVar i) := by
  intro pins s σ H Q I h
  obtain ⟨v, e, h⟩ := h
  obtain ⟨m, hn, hl⟩ := I.loc
  obtain ⟨u, r, l⟩ := hl i x v hN e hv
  have fin : EP X pins σ Q u s := ⟨v, H, I, r, h⟩
  rcases l with ⟨hk, hm⟩ | ⟨hk, c, hc, hcell⟩
  · exact wpAny_Name (wpAny_loadName_local I.ok.kind hk hn hm fin) hd
  · rcases hk with hk | hk
    · exact wpAny_Name (wpAny_loadName_cell I.ok.kind hk hc hcell fin) hd
    · exact wpAny_Name (wpAny_loadName_free I.ok.kind hk hc hcell fin hcd) hd
theorem pe_int {i j pos} : PE X (.Constant (.int i) j pos) (tC (.int i)) := fun _ _ _ H _ I h => wpAny_Constant_int ⟨.int i, H, I.tok _, ⟨_, rfl⟩, h⟩
theorem pe_bl {b j pos} : PE X (.Constant (.bool b) j pos) (tC (.bl b)) := fun _ _ _ H _ I h => Constant_bool ⟨.bl b, H, I, rfl, h⟩
theorem pe_non {j pos} : PE X (.Constant .none j pos) (tC .non) := fun _ _ _ H _ I h => Constant_none ⟨.non, H, I, rfl, h⟩
theorem pe_str {x j pos} : PE X (.Constant (.str x) j pos) (tC (.str x)) := fun _ _ _ H _ I h => Calls.Constant_str ⟨.str x, H, I.tok _, ⟨_, rfl⟩, h⟩
def Gl (X : Cx) (x : Str) : Prop := X.env.kindOf x = some .globalImplicit
theorem ld_glob {E : Value → Shared → Prop} {pins : List (Addr × Obj)} {s : Shared} {σ : St} {H : Hp} {x : Str} {u : Value} {pos : Pos} {Q : Value → Shared → Prop} (I : Inv X pins σ H s) (hg : Gl X x) (hm : X.mg x = some u) (h : Q u s)
    (hd : (x == ("__debug__" : Str)) = false := by decide) : wpAny (model X.prog X.w) X.A (eval (.Name x pos) X.env) Q E s :=
  Calls.Name_function_global I.ok.kind hg (Calls.loadGlobal_global (by rw [I.ok.glob]; exact I.mod.glob.keeps I.bk) hm h) hd
theorem ld_blt {E : Value → Shared → Prop} {pins : List (Addr × Obj)} {s : Shared} {σ : St} {H : Hp} {x : Str} {u : Value} {pos : Pos} {Q : Value → Shared → Prop} (I : Inv X pins σ H s) (hg : Gl X x) (hm : X.mg x = none) (hv : bootBuiltins x = some u) (h : Q u s)
    (hn : x ≠ "__name__" := by decide) (hd : (x == ("__debug__" : Str)) = false := by decide) : wpAny (model X.prog X.w) X.A (eval (.Name x pos) X.env) Q E s := by
  obtain ⟨mb, h1, h2⟩ := I.mod.blt
  exact Calls.Name_function_global I.ok.kind hg (Calls.loadGlobal_builtin (by rw [I.ok.glob]; exact I.mod.glob.keeps I.bk) hm (by rw [I.ok.blt]; exact h1.keeps I.bk) ((h2 x hn).trans hv) h) hd
theorem pe_glob {x : Str} {v : V} {u : Value} {pos : Pos} (hg : Gl X x) (hm : X.mg x = some u) (r : RelV v u) (hd : (x == ("__debug__" : Str)) = false := by decide) : PE X (.Name x pos) (tC v) :=
  fun _ _ _ H _ I h => ld_glob I hg hm ⟨v, H, I, r, h⟩ hd
theorem pe_bltn {x : Str} {v : V} {u : Value} {pos : Pos} (hg : Gl X x) (hm : X.mg x = none) (hv : bootBuiltins x = some u) (r : RelV v u) (hn : x ≠ "__name__" := by decide) (hd : (x == ("__debug__" : Str)) = false := by decide) : PE X (.Name x pos) (tC v) :=
  fun _ _ _ H _ I h => ld_blt I hg hm hv ⟨v, H, I, r, h⟩ hn hd
def t2I (ta tb : TE) (k : Int → Int → Hp → Prop) : St → Hp → Prop := fun σ H => ta σ H fun x H1 => tb σ H1 fun y H2 => ∃ i j, x = .int i ∧ y = .int j ∧ k i j H2
def tAdd (ta tb : TE) : TE := fun σ H Q => t2I ta tb (fun i j H2 => Q (.int (i + j)) H2) σ H
def tSub (ta tb : TE) : TE := fun σ H Q => t2I ta tb (fun i j H2 => Q (.int (i - j)) H2) σ H
def tMul (ta tb : TE) : TE := fun σ H Q => t2I ta tb (fun i j H2 => (-(2 ^ 64) < i ∧ i < 2 ^ 64) ∧ Q (.int (i * j)) H2) σ H
variable {a b : Expr} {ta tb : TE} {pos : Pos}
def PC (X : Cx) (op : CmpOp) (a b : Expr) (t : TE) : Prop :=
  ∀ (pins : List (Addr × Obj)) (s : Shared) (σ : St) (H : Hp) (Q : VK), Inv X pins σ H s → t σ H Q →
    wpAny (model X.prog X.w) X.A (eval a X.env) (fun v s₁ => wpAny (model X.prog X.w) X.A (eval b X.env) (fun u s₂ => wpAny (model X.prog X.w) X.A (compareOp op v u) (EP X pins σ Q) X.xe s₂) X.xe s₁) X.xe s
def tCmp (p : Int → Int → Bool) (ta tb : TE) : TE := fun σ H Q => t2I ta tb (fun i j H2 => Q (.bl (p i j)) H2) σ H
abbrev tLt : TE → TE → TE := tCmp fun i j => decide (i < j)
abbrev tLe : TE → TE → TE := tCmp fun i j => decide (i ≤ j)
abbrev tGt : TE → TE → TE := tCmp fun i j => decide (j < i)
abbrev tGe : TE → TE → TE := tCmp fun i j => decide (j ≤ i)
abbrev tEqI : TE → TE → TE := tCmp fun i j => decide (i = j)
abbrev tNeI : TE → TE → TE := tCmp fun i j => !decide (i = j)
def tIsN (ta : TE) : TE := fun σ H Q => ta σ H fun x H1 => Q (.bl (decide (x = .non))) H1
def tNotN (ta : TE) : TE := fun σ H Q => ta σ H fun x H1 => Q (.bl (!decide (x = .non))) H1
def tB (t : TE) : TT := fun σ H Q => t σ H fun x H1 => ∃ c, x = .bl c ∧ Q c H1
theorem pt_val {e : Expr} {t : TE} (h : PE X e t) (he : ∀ whole, isTrue e X.env whole = (do let v ← whole; standAt e.pos; holding [v] (truthy v)) := by intro _; rfl) : PT X e (tB t) := by
  intro pins s σ H Q I hw
  refine isTrue_plain (thn (h pins s σ H _ I hw) fun v s1 ⟨x, H1, I1, r1, q1⟩ => ?_) (he _)
  obtain ⟨d, rfl, q⟩ := q1
  cases r1
  exact wpAny_truthy_bool ⟨H1, I1, q⟩
variable {tA tB' : TT} {rest : List Expr}
def tAnd (t u : TT) : TT := fun σ H Q => t σ H fun c H1 => if c = true then u σ H1 Q else Q false H1
def tOr (t u : TT) : TT := fun σ H Q => t σ H fun c H1 => if c = true then Q true H1 else u σ H1 Q
def tNot (t : TT) : TT := fun σ H Q => t σ H fun c H1 => Q (!c) H1
theorem pw_and1 (ha : PT X a tA) : PW X (.BoolOp .And [a] pos) tA := by
  intro wh pins s σ H Q I h
  refine isTrue_and (thn (ha pins s σ H Q I h) fun c s1 e => ?_)
  cases c with
  | true => exact isTrue_and_nil e
  | false => exact e
theorem pw_or1 (ha : PT X a tA) : PW X (.BoolOp .Or [a] pos) tA := by
  intro wh pins s σ H Q I h
  refine isTrue_or (thn (ha pins s σ H Q I h) fun c s1 e => ?_)
  cases c with
  | false => exact isTrue_or_nil e
  | true => exact e
theorem pw_and (ha : PT X a tA) (hb : PW X (.BoolOp .And (b :: rest) pos) tB') : PW X (.BoolOp .And (a :: b :: rest) pos) (tAnd tA tB') := by
  intro wh pins s σ H Q I h
  refine isTrue_and (thn (ha pins s σ H _ I h) fun c s1 ⟨H1, I1, q1⟩ => ?_)
  cases c with
  | true => exact hb wh pins s1 σ H1 Q I1 q1
  | false => exact ⟨H1, I1, q1⟩
theorem pw_or (ha : PT X a tA) (hb : PW X (.BoolOp .Or (b :: rest) pos) tB') : PW X (.BoolOp .Or (a :: b :: rest) pos) (tOr tA tB') := by
  intro wh pins s σ H Q I h
  refine isTrue_or (thn (ha pins s σ H _ I h) fun c s1 ⟨H1, I1, q1⟩ => ?_)
  cases c with
  | true => exact ⟨H1, I1, q1⟩
  | false => exact hb wh pins s1 σ H1 Q I1 q1
theorem pt_not (ha : PT X a tA) : PT X (.UnaryOp .Not a pos) (tNot tA) := by
  intro pins s σ H Q I h
  exact isTrue_not (ha pins s σ H (fun c H1 => Q (!c) H1) I h)
def tAndV (ta tb : TE) : TE := fun σ H Q => ta σ H fun x H1 => ∃ c, x = .bl c ∧ if c = true then tb σ H1 Q else Q (.bl false) H1
def tOrV (ta tb : TE) : TE := fun σ H Q => ta σ H fun x H1 => ∃ c, x = .bl c ∧ if c = true then Q (.bl true) H1 else tb σ H1 Q
def tNotV (ta : TE) : TE := fun σ H Q => ta σ H fun x H1 => ∃ c, x = .bl c ∧ Q (.bl (!c)) H1
theorem pe_one {op} {t : TE} (h : PE X a t) : PE X (.BoolOp op [a] pos) t := fun pins s σ H Q I hw => BoolOp_one (h pins s σ H Q I hw)
theorem pe_and (ha : PE X a ta) (hb : PE X (.BoolOp .And (b :: rest) pos) tb) : PE X (.BoolOp .And (a :: b :: rest) pos) (tAndV ta tb) := by
  intro pins s σ H Q I h
  refine BoolOp_and (thn (ha pins s σ H _ I h) fun v s1 ⟨x, H1, I1, r1, q1⟩ => ?_)
  obtain ⟨c, rfl, q1⟩ := q1
  cases r1
  refine wpAny_truthy_bool ?_
  cases c with
  | true => exact hb pins s1 σ H1 Q I1 q1
  | false => exact ⟨.bl false, H1, I1, rfl, q1⟩
def tIf (t : TT) (ta tb : TE) : TE := fun σ H Q => t σ H fun c H1 => if c = true then ta σ H1 Q else tb σ H1 Q
theorem pe_ifExp {c : Expr} (hc : PT X c tA) (ha : PE X a ta) (hb : PE X b tb) : PE X (.IfExp c a b pos) (tIf tA ta tb) := by
  intro pins s σ H Q I h
  refine wpAny_IfExp (thn (hc pins s σ H _ I h) fun d s1 ⟨H1, I1, q1⟩ => ?_)
  cases d with
  | true => exact ha pins s1 σ H1 Q I1 q1
  | false => exact hb pins s1 σ H1 Q I1 q1
end
end L2
namespace L2
open PySem PySem.Spec PyProof.Rows
def SqL (K : PySem.W.Frag) (H : Hp) (a : Addr) (xs : List V) : Prop :=
  Rd H a (.lst xs) ∨
    ∃ (o : Obj) (its : Array Value) (n : Nat), K.lookup a = some o ∧ o.cls = .type "list" ∧ o.dict = none ∧ o.data = .seq its n ∧ its.size ≤ sizeLine ∧ Vals xs its.toList
def SqT (K : PySem.W.Frag) (H : Hp) (a : Addr) (xs : List V) : Prop :=
  Rd H a (.tup xs) ∨
    ∃ (o : Obj) (its : Array Value) (n : Nat), K.lookup a = some o ∧ o.cls = .type "tuple" ∧ o.data = .seq its n ∧ its.size ≤ sizeLine ∧ Vals xs its.toList
def absV : Value → Option V
  | .none => some .non
  | .bool b => some (.bl b)
  | .int i _ => some (.int i)
  | .str x _ => some (.str x)
  | .bytes b _ => some (.byt b)
  | .float b _ => some (.flt b)
  | .ref a => some (.ref a)
  | .type n => some (.ty n)
  | _ => none
theorem RelV.abs {x : V} {u : Value} (r : RelV x u) : absV u = some x := by
  cases x with
  | non => cases r; rfl
  | bl _ => cases r; rfl
  | int _ => obtain ⟨t, rfl⟩ := r; rfl
  | str _ => obtain ⟨t, rfl⟩ := r; rfl
  | byt _ => obtain ⟨t, rfl⟩ := r; rfl
  | flt _ => obtain ⟨t, rfl⟩ := r; rfl
  | ref _ => cases r; rfl
  | ty _ => cases r; rfl
theorem RelV.inj {x y : V} {u : Value} (r : RelV x u) (q : RelV y u) : x = y := Option.some.inj (r.abs.symm.trans q.abs)
theorem Vals.inj : ∀ {xs ys : List V} {us : List Value}, Vals xs us → Vals ys us → xs = ys
  | _, _, _, .nil, .nil => rfl
  | _, _, _, .cons r t, .cons r' t' => by rw [r.inj r', Vals.inj t t']
section
variable {X : Cx} {pins : List (Addr × Obj)} {σ : St} {H : Hp} {s : Shared} {a : Addr} {xs ys : List V}
theorem SqL.of {K : PySem.W.Frag} (h : H a = some (.lst xs)) : SqL K H a xs := .inl (.inl h)
theorem SqT.of {K : PySem.W.Frag} (h : H a = some (.tup xs)) : SqT K H a xs := .inl (.inl h)
theorem Inv.list (I : Inv X pins σ H s) (h : SqL X.K H a xs) : ∃ its : List Value, Vals xs its ∧ PlainL s.heap a its.toArray ∧ xs.length ≤ sizeLine := by
  rcases h with h | ⟨o, its, n, hk, hc, hd, hs, hz, r⟩
  · obtain ⟨z, its, n, r, e⟩ := h.ok I.hok
    exact ⟨its, r, ⟨_, n, e, rfl, rfl, rfl⟩, z⟩
  · refine ⟨its.toList, r, ⟨o, n, I.kIn a o hk, hc, hd, by simpa using hs⟩, ?_⟩
    have e := r.length
    simp only [Array.length_toList] at e
    omega
theorem Inv.tuple (I : Inv X pins σ H s) (h : SqT X.K H a xs) : ∃ its : List Value, Vals xs its ∧ IsTup s.heap a its.toArray ∧ xs.length ≤ sizeLine := by
  rcases h with h | ⟨o, its, n, hk, hc, hs, hz, r⟩
  · obtain ⟨z, its, r, p⟩ := h.ok I.hok
    exact ⟨its, r, p, z⟩
  · refine ⟨its.toList, r, ⟨o, I.kIn a o hk, hc, n, by simpa using hs⟩, ?_⟩
    have e := r.length
    simp only [Array.length_toList] at e
    omega
theorem Inv.list_inj (I : Inv X pins σ H s) (h : SqL X.K H a xs) (h' : SqL X.K H a ys) : xs = ys := by
  obtain ⟨its, r, ⟨o, n, e, _, _, d⟩, _⟩ := I.list h
  obtain ⟨its', r', ⟨o', n', e', _, _, d'⟩, _⟩ := I.list h'
  rw [e] at e'; cases e'
  rw [d] at d'
  injection d' with d1 _
  have : its = its' := by simpa using congrArg Array.toList d1
  subst this
  exact r.inj r'
theorem Inv.tuple_inj (I : Inv X pins σ H s) (h : SqT X.K H a xs) (h' : SqT X.K H a ys) : xs = ys := by
  obtain ⟨its, r, ⟨o, e, _, n, d⟩, _⟩ := I.tuple h
  obtain ⟨its', r', ⟨o', e', _, n', d'⟩, _⟩ := I.tuple h'
  rw [e] at e'; cases e'
  rw [d] at d'
  injection d' with d1 _
  have : its = its' := by simpa using congrArg Array.toList d1
  subst this
  exact r.inj r'
end
abbrev Cx.wish (X : Cx) (E : Value → Shared → Prop) : Cx := { X with xe := E }
abbrev Cx.nox (X : Cx) : Cx := X.wish fun _ _ => False
theorem Cx.Ok.wish {X : Cx} (ok : X.Ok) (E : Value → Shared → Prop) : (X.wish E).Ok :=
  ⟨ok.mod, ok.kind, ok.glob, ok.blt, ok.above, ok.inj, ok.has, ok.cab, ok.hd, ok.frames, ok.stk, ok.exf, ok.bs, ok.bsz, ok.noex, ok.exfs, ok.funs, ok.frf⟩
theorem Cx.Ok.unwish {X : Cx} {E : Value → Shared → Prop} (ok : (X.wish E).Ok) : X.Ok :=
  ⟨ok.mod, ok.kind, ok.glob, ok.blt, ok.above, ok.inj, ok.has, ok.cab, ok.hd, ok.frames, ok.stk, ok.exf, ok.bs, ok.bsz, ok.noex, ok.exfs, ok.funs, ok.frf⟩
section
variable {X : Cx} {pins : List (Addr × Obj)} {σ : St} {H : Hp} {s : Shared} {E : Value → Shared → Prop}
theorem Inv.wish (I : Inv X pins σ H s) (E : Value → Shared → Prop) : Inv (X.wish E) pins σ H s := ⟨I.ok.wish E, I.os, I.bare, I.base, I.loc, I.cell, I.free, I.freeC, I.pin, I.hok, I.len⟩
theorem Inv.unwish (I : Inv (X.wish E) pins σ H s) : Inv X pins σ H s := ⟨I.ok.unwish, I.os, I.bare, I.base, I.loc, I.cell, I.free, I.freeC, I.pin, I.hok, I.len⟩
theorem SP.unwish {D : Ends} {f : Flow} {s' : Shared} (h : SP (X.wish E) pins D f s') : SP X pins D f s' := by
  cases f with
  | next => obtain ⟨σ', H', I, q⟩ := h; exact ⟨σ', H', I.unwish, q⟩
  | brk => obtain ⟨σ', H', I, q⟩ := h; exact ⟨σ', H', I.unwish, q⟩
  | cont => obtain ⟨σ', H', I, q⟩ := h; exact ⟨σ', H', I.unwish, q⟩
  | ret u => obtain ⟨v, σ', H', I, r, q⟩ := h; exact ⟨v, σ', H', I.unwish, r, q⟩
theorem PE.nox {e : Expr} {t : TE} (h : PE X.nox e t) : PE X e t := fun pins s σ H Q I hw =>
  wpAny_mono (h pins s σ H Q (I.wish _) hw) (fun _ _ ⟨v, H', I', r, q⟩ => ⟨v, H', I'.unwish, r, q⟩) fun _ _ z => False.elim z
theorem PT.nox {e : Expr} {t : TT} (h : PT X.nox e t) : PT X e t := fun pins s σ H Q I hw =>
  wpAny_mono (h pins s σ H Q (I.wish _) hw) (fun _ _ ⟨H', I', q⟩ => ⟨H', I'.unwish, q⟩) fun _ _ z => False.elim z
theorem PSs.nox {st : List Stmt} {t : TS} (h : PSs X.nox st t) : PSs X st t := fun pins s σ H D I hw =>
  wpAny_mono (h pins s σ H D (I.wish _) hw) (fun _ _ q => q.unwish) fun _ _ z => False.elim z
end
section
variable {X : Cx} {st : Stmt} {rest : List Stmt} {t u : TS} {e : Expr} {te : TE} {pos : Pos}
def tNext : TS := fun D σ H => D.nx σ H
def tSeq (t u : TS) : TS := fun D σ H => t { D with nx := u D } σ H
theorem pss_nil : PSs X [] tNext := fun _ _ σ H _ I h => wpAny_execs_nil ⟨σ, H, I, h⟩
theorem pss_cons (h1 : PS X st t) (h2 : PSs X rest u) : PSs X (st :: rest) (tSeq t u) := by
  intro pins s σ H D I h
  refine wpAny_execs_cons (thn (h1 pins s σ H { D with nx := u D } I h) fun f s1 q => ?_)
  cases f with
  | next =>
    obtain ⟨σ', H', I', q⟩ := q
    exact h2 pins s1 σ' H' D I' q
  | ret v => exact q
  | brk => exact q
  | cont => exact q
theorem pss_one (h1 : PS X st t) : PSs X [st] t := by
  intro pins s σ H D I h
  refine wpAny_execs_cons (thn (h1 pins s σ H D I h) fun f s1 q => ?_)
  cases f with
  | next => exact wpAny_execs_nil q
  | ret v => exact q
  | brk => exact q
  | cont => exact q
def tBreak : TS := fun D σ H => D.bk σ H
def tCont : TS := fun D σ H => D.ct σ H
theorem Inv.quiet {pins : List (Addr × Obj)} {σ : St} {H : Hp} {s : Shared} (I : Inv X pins σ H s) : interactive X.env = false := by simp [interactive, I.ok.kind]
def tDrop (te : TE) : TS := fun D σ H => te σ H fun _ H1 => D.nx σ H1
theorem ps_expr (he : PE X e te) (hs : swapsWith e none pos.line X.env = pure false := by rfl) : PS X (.Expr e pos) (tDrop te) := by
  intro pins s σ H D I h
  exact wpAny_Expr_any (thn (he pins s σ H _ I h) fun v s1 ⟨x, H1, I1, r1, q1⟩ => ⟨σ, H1, I1, q1⟩) I.quiet hs
def tRet (te : TE) : TS := fun D σ H => te σ H D.rt
theorem ps_ret (he : PE X e te) : PS X (.Return (some e) pos) (tRet te) := by
  intro pins s σ H D I h
  exact wpAny_Return_some (thn (he pins s σ H _ I h) fun v s1 ⟨x, H1, I1, r1, q1⟩ => ⟨x, σ, H1, I1, r1, q1⟩)
def tRetN : TS := fun D _ H => D.rt .non H
def tIfS (c : TT) (t u : TS) : TS := fun D σ H => c σ H fun b H1 => if b = true then t D σ H1 else u D σ H1
theorem ps_if {c : Expr} {a b : List Stmt} {tc : TT} (hc : PT X c tc) (ha : PSs X a t) (hb : PSs X b u) : PS X (.If c a b pos) (tIfS tc t u) := by
  intro pins s σ H D I h
  refine wpAny_If (thn (hc pins s σ H _ I h) fun d s1 ⟨H1, I1, q1⟩ => ?_)
  cases d with
  | true => exact ha pins s1 σ H1 D I1 q1
  | false => exact hb pins s1 σ H1 D I1 q1
def tNever : TS := fun _ _ _ => False
theorem pss_never {sts : List Stmt} : PSs X sts tNever := fun _ _ _ _ _ _ h => h.elim
end
abbrev TG := V → St → Hp → (St → Hp → Prop) → Prop
abbrev TGs := List V → St → Hp → (St → Hp → Prop) → Prop
def PG (X : Cx) (target : Expr) (t : TG) : Prop :=
  ∀ (pins : List (Addr × Obj)) (s : Shared) (σ : St) (H : Hp) (v : V) (u : Value) (Q : St → Hp → Prop), Inv X pins σ H s → RelV v u → t v σ H Q →
    wpAny (model X.prog X.w) X.A (assign target X.env u) (fun _ s' => ∃ σ' H', Inv X pins σ' H' s' ∧ Q σ' H') X.xe s
def PGs (X : Cx) (ts : List Expr) (t : TGs) : Prop :=
  ∀ (pins : List (Addr × Obj)) (s : Shared) (σ : St) (H : Hp) (vs : List V) (us : List Value) (Q : St → Hp → Prop), Inv X pins σ H s → Vals vs us → t vs σ H Q →
    wpAny (model X.prog X.w) X.A (assignInOrder ((assignEach ts X.env).map (·.2)) us) (fun _ s' => ∃ σ' H', Inv X pins σ' H' s' ∧ Q σ' H') X.xe s
abbrev TSet := V → V → V → Hp → (Hp → Prop) → Prop
def PSet (X : Cx) (t : TSet) : Prop :=
  ∀ (pins : List (Addr × Obj)) (s : Shared) (σ : St) (H : Hp) (o i v : V) (ov iv u : Value) (Q : Hp → Prop), Inv X pins σ H s → RelV o ov → RelV i iv → RelV v u → t o i v H Q →
    wpAny (model X.prog X.w) X.A (setItem ov iv u) (fun _ s' => ∃ H', Inv X pins σ H' s' ∧ Q H') X.xe s
abbrev TIp := V → V → Hp → VK → Prop
def PIp (X : Cx) (op : Operator) (t : TIp) : Prop :=
  ∀ (pins : List (Addr × Obj)) (s : Shared) (σ : St) (H : Hp) (x y : V) (v u : Value) (Q : VK), Inv X pins σ H s → RelV x v → RelV y u → t x y H Q →
    wpAny (model X.prog X.w) X.A (inplaceOp op v u) (EP X pins σ Q) X.xe s
section
variable {X : Cx} {pos : Pos}
def gName (i : Nat) : TG := fun v σ H Q => Q (σ.set i (some v)) H
theorem pg_name {i : Nat} {x : Str} (hN : X.N.Nodup) (hi : X.N[i]? = some x) (hx : Loc X.env.scope x) (hf : X.fn x = true ∨ X.env.scope.names.lookup x = some .local := by first | exact .inl rfl | exact .inr rfl | assumption) : PG X (.Name x pos) (gName i) := by
  intro pins s σ H v u Q I r h
  exact wpAny_assign_Name (store_ok I hN hi hx r (fun s' I' => ⟨_, H, I', h⟩) hf)
def gNil : TGs := fun vs σ H Q => vs = [] ∧ Q σ H
def gCons (t : TG) (u : TGs) : TGs := fun vs σ H Q => ∃ v r, vs = v :: r ∧ t v σ H fun σ' H' => u r σ' H' Q
theorem pgs_nil : PGs X [] gNil := by
  intro pins s σ H vs us Q I r h
  obtain ⟨e, h⟩ := h
  subst e
  cases r
  exact assignInOrder_nil ⟨σ, H, I, h⟩
theorem pgs_cons {e : Expr} {es : List Expr} {t : TG} {u : TGs} (h1 : PG X e t) (h2 : PGs X es u)
    (hs : (assignEach (e :: es) X.env).map (·.2) = assign e X.env :: (assignEach es X.env).map (·.2) := by rfl) : PGs X (e :: es) (gCons t u) := by
  intro pins s σ H vs us Q I r h
  obtain ⟨v, vr, e1, h⟩ := h
  subst e1
  cases r with
  | cons r rr =>
    rw [hs]
    refine assignInOrder_cons (thn (h1 pins s σ H _ _ _ I r h) fun _ s1 ⟨σ1, H1, I1, q1⟩ => ?_)
    exact h2 pins s1 σ1 H1 _ _ Q I1 rr q1
def gTup (K : PySem.W.Frag) (n : Nat) (t : TGs) : TG := fun v σ H Q => ∃ a xs, v = .ref a ∧ SqT K H a xs ∧ xs.length = n ∧ t xs σ H Q
theorem pg_tup {es : List Expr} {k : Nat} {t : TGs} {n : Nat} (hc : X.calm = true) (h : PGs X es t)
    (hn : (assignEach es X.env).length = n := by rfl) (hst : (assignEach es X.env).findIdx? (·.1) = none := by rfl) : PG X (.Tuple es k pos) (gTup X.K n t) := by
  intro pins s σ H v u Q I r hw
  obtain ⟨a, xs, e1, hq, hl, hw⟩ := hw
  subst e1
  cases r
  obtain ⟨its, rv, ht, hz⟩ := I.tuple hq
  refine assign_Tuple_tuple (I.ok.hd hc) ht (by simp [hn, ← hl, rv.length]) hst fun h' hx => ?_
  have I1 : Inv X pins σ H { s with heap := h' } := I.kept (t' := s.toks) fun b o e => hx b o (Nat.ne_of_lt (Heap.lt_size e)) e
  exact h pins _ σ H xs _ Q I1 (by simpa using rv) hw
def gSub (to ti : TE) (t : TSet) : TG := fun v σ H Q => to σ H fun o H1 => ti σ H1 fun i H2 => t o i v H2 fun H3 => Q σ H3
def tAsg (te : TE) (g : TG) : TS := fun D σ H => te σ H fun x H1 => g x σ H1 D.nx
theorem ps_set {i : Nat} {x : Str} {e : Expr} {te : TE} {pos' : Pos} (hN : X.N.Nodup) (hi : X.N[i]? = some x) (hx : Loc X.env.scope x) (he : PE X e te) (hs : swapsWith e (some (.Name x pos')) pos.line X.env = pure false := by rfl) (hf : X.fn x = true ∨ X.env.scope.names.lookup x = some .local := by first | exact .inl rfl | exact .inr rfl | assumption) :
    PS X (.Assign [.Name x pos'] e pos) (tAsg te (gName i)) := by
  intro pins s σ H D I h
  refine wpAny_Assign_Name (thn (he pins s σ H _ I h) fun v s1 ⟨y, H1, I1, r1, q1⟩ => ?_) hs
  exact store_ok I1 hN hi hx r1 (fun s2 I2 => ⟨_, H1, I2, q1⟩) hf
def tPar (i j : Nat) (ta : TA) : TS := fun D σ H => ta σ H fun vs H1 => ∃ v w, vs = [v, w] ∧ D.nx ((σ.set i (some v)).set j (some w)) H1
def tAug (i : Nat) (te : TE) (ti : TIp) : TS := fun D σ H => ∃ x, σ[i]? = some (some x) ∧ te σ H fun y H1 => ti x y H1 fun z H2 => D.nx (σ.set i (some z)) H2
def tAugS (to ti te : TE) (tget : V → V → Hp → VK → Prop) (tip : TIp) (tset : TSet) : TS := fun D σ H => to σ H fun o H1 => ti σ H1 fun i H2 => tget o i H2 fun x H3 => te σ H3 fun y H4 => tip x y H4 fun z H5 => tset o i z H5 fun H6 => D.nx σ H6
def PGet (X : Cx) (t : V → V → Hp → VK → Prop) : Prop :=
  ∀ (pins : List (Addr × Obj)) (s : Shared) (σ : St) (H : Hp) (o i : V) (ov iv : Value) (Q : VK), Inv X pins σ H s → RelV o ov → RelV i iv → t o i H Q →
    wpAny (model X.prog X.w) X.A (getItem ov iv) (EP X pins σ Q) X.xe s
def ipI (f : Int → Int → Int) : TIp := fun x y H Q => ∃ i j, x = .int i ∧ y = .int j ∧ Q (.int (f i j)) H
end
section
variable {X : Cx} {pos : Pos}
def tWhile (c : TT) (tb : TS) : TS := fun D σ H => ∃ W : Nat → St → Hp → Prop, (∃ m, W m σ H) ∧ ∀ m σ H, W m σ H →
  c σ H fun b H1 => if b = true then ∃ N : St → Hp → Prop, (∀ σ' H', N σ' H' → ∃ m', m' < m ∧ W m' σ' H') ∧ tb { D with nx := N, ct := N, bk := D.nx } σ H1 else D.nx σ H1
end
structure It where
  go : Nat → Hp → Prop
  yld : Nat → Hp → V → Hp → Prop
  stop : Nat → Hp → Prop
def FpOk (X : Cx) (pins : List (Addr × Obj)) (H : Hp) (b : Addr) : Prop :=
  H b = none ∧ b ≠ X.env.locals ∧ b ∉ X.fs ∧ (b ∈ X.ex ∨ X.s₀.heap.objs.size ≤ b) ∧ (∀ x c, X.env.cells.lookup x = some c → c ≠ b) ∧ ∀ p ∈ X.pn ++ pins, p.1 ≠ b
theorem Inv.fpOk {X : Cx} {pins : List (Addr × Obj)} {σ : St} {H H' : Hp} {s : Shared} {b : Addr} (I : Inv X pins σ H s) (hb : s.heap.objs.size ≤ b) (hn : H' b = none) : FpOk X pins H' b := by
  refine ⟨hn, Nat.ne_of_gt (Nat.lt_of_lt_of_le I.lt hb), I.nofs hb, .inr (Nat.le_trans I.sz hb), fun x c e z => ?_, fun p hp z => ?_⟩
  · obtain ⟨v, q⟩ := I.cell x c e
    exact absurd (Nat.lt_of_lt_of_le q.lt (by rw [z]; exact hb)) (Nat.lt_irrefl _)
  · exact absurd (Nat.lt_of_lt_of_le (Heap.lt_size (I.pin p hp).1) (by rw [z]; exact hb)) (Nat.lt_irrefl _)
structure Turn (P : Program) (w : World) (K : PySem.W.Frag) (tg : Expr) (J : It) (fp : List Addr) (it : Addr) (tn : Nat → Heap → Prop) : Prop where
  mem : it ∈ fp
  obj : ∀ i h, tn i h → ∀ b ∈ fp, ∃ o, h.get? b = some o ∧ ∀ v, o.data ≠ .cell v
  keep : ∀ i h h', tn i h → (∀ b ∈ fp, ∀ o, h.get? b = some o → h'.get? b = some o) → tn i h'
  item : ∀ (X : Cx), X.prog = P → X.w = w → X.K = K → X.calm = true → ∀ (i : Nat) (pins : List (Addr × Obj)) (s : Shared) (σ : St) (H : Hp) (E : Value → Shared → Prop), Inv X pins σ H s → (∀ b ∈ fp, FpOk X pins H b) → tn i s.heap → J.go i H →
    wpAny (model P w) X.A (pyNext (.ref it)) (fun r s1 => ∃ u, r = some u ∧
      wpAny (model P w) X.A (letOwnedTupleGo tg (.ref it) u) (fun _ s2 => ∃ x H', Inv X pins σ H' s2 ∧ RelV x u ∧ J.yld i H x H' ∧ tn (i + 1) s2.heap ∧ ∀ b ∈ fp, H' b = none) E s1) E s
  done : ∀ (X : Cx), X.prog = P → X.w = w → X.K = K → X.calm = true → ∀ (i : Nat) (pins : List (Addr × Obj)) (s : Shared) (σ : St) (H : Hp) (E : Value → Shared → Prop), Inv X pins σ H s → (∀ b ∈ fp, FpOk X pins H b) → tn i s.heap → J.stop i H →
    wpAny (model P w) X.A (pyNext (.ref it)) (fun r s1 => r = none ∧ Inv X pins σ H s1) E s
  self : ∀ (A : Around) (i : Nat) (s : Shared) (Q : Value → Shared → Prop) (E : Value → Shared → Prop), tn i s.heap → Q (.ref it) s → wpAny (model P w) A (pyIter (.ref it)) Q E s
abbrev TI := St → Hp → (It → Hp → Prop) → Prop
def PIE (X : Cx) (pins : List (Addr × Obj)) (σ : St) (tg : Expr) (R : It → Hp → Prop) (itv : Value) (s2 : Shared) : Prop :=
  ∃ (it : Addr) (fp : List Addr) (tn : Nat → Heap → Prop) (J : It) (H' : Hp), itv = .ref it ∧ Inv X pins σ H' s2 ∧ Turn X.prog X.w X.K tg J fp it tn ∧ tn 0 s2.heap ∧ (∀ b ∈ fp, FpOk X pins H' b) ∧ R J H'
def PI (X : Cx) (tg iter : Expr) (wi : TI) : Prop :=
  ∀ (pins : List (Addr × Obj)) (s : Shared) (σ : St) (H : Hp) (R : It → Hp → Prop), Inv X pins σ H s → wi σ H R →
    wpAny (model X.prog X.w) X.A (eval iter X.env) (fun v s1 => wpAny (model X.prog X.w) X.A (pyIter v) (PIE X pins σ tg R) X.xe s1) X.xe s
theorem go_of {M : Model} {A : Around} {E : Value → Shared → Prop} {s : Shared} {tg : Expr} {it : Addr} {u : Value} {o : Obj} {n : String} {vs : Array Value} {Q : Unit → Shared → Prop} (ho : s.heap.get? it = some o) (hc : o.cls = .type n) (hd : o.data = .fields vs)
    (hn : ["enumerate", "zip", "dict_itemiterator", "dict_reverseitemiterator", "odict_iterator", "itertools.zip_longest", "itertools.pairwise"].contains n = false) (hQ : Q () s) : wpAny M A (letOwnedTupleGo tg (.ref it) u) Q E s := by
  unfold letOwnedTupleGo
  cases tg <;> first
    | exact wpAny_pure hQ
    | (cases u <;> first
        | exact wpAny_pure hQ
        | (refine wpAny_bind (wpAny_load ho ?_)
           rw [hc, hd]
           show wpAny M A (if (["enumerate", "zip", "dict_itemiterator", "dict_reverseitemiterator", "odict_iterator", "itertools.zip_longest", "itertools.pairwise"].contains n && vs[0]? == some (rawInt _)) = true then _ else _) Q E s
           rw [if_neg (by intro h; rw [hn, Bool.false_and] at h; cases h)]
           exact wpAny_pure hQ))
def Itl (K : PySem.W.Frag) (a : Addr) : It :=
  ⟨fun i H => ∃ xs x, SqL K H a xs ∧ xs[i]? = some x, fun i H x H' => H' = H ∧ ∀ xs, SqL K H a xs → xs[i]? = some x, fun i H => ∃ xs, SqL K H a xs ∧ xs.length ≤ i⟩
def Itt (K : PySem.W.Frag) (a : Addr) : It :=
  ⟨fun i H => ∃ xs x, SqT K H a xs ∧ xs[i]? = some x, fun i H x H' => H' = H ∧ ∀ xs, SqT K H a xs → xs[i]? = some x, fun i H => ∃ xs, SqT K H a xs ∧ xs.length ≤ i⟩
def Itr (lo : Int) (n : Nat) : It := ⟨fun i _ => i < n, fun i H x H' => H' = H ∧ x = .int (lo + i), fun i _ => n ≤ i⟩
theorem turn_list {P : Program} {w : World} {K : PySem.W.Frag} {tg : Expr} (a it : Addr) : Turn P w K tg (Itl K a) [it] it (fun i h => h.IsListIter it a i) where
  mem := by simp
  obj := fun i h st b hb => by
    have e : b = it := by simpa using hb
    subst e
    obtain ⟨o, e, c, d⟩ := st
    exact ⟨o, e, fun v z => by rw [d] at z; cases z⟩
  keep := fun i h h' st k => st.at fun o e => k it (by simp) o e
  item := by
    intro X hP hw hK hc i pins s σ H E I hf st hg
    subst hP hw hK
    obtain ⟨xs, x, hq, hx⟩ := hg
    obtain ⟨its, rv, p, hz⟩ := I.list hq
    obtain ⟨u, hu, ru⟩ := rv.get hx
    obtain ⟨f0, f1, f2, f3, f4, f5⟩ := hf it (by simp)
    refine wpAny_pyNext_list_item st p.isList (x := u) (by simpa using hu) fun h' st' sb => ?_
    have I1 : Inv X pins σ H { s with heap := h' } := I.turned (t' := s.toks) (fun b o hb e => (sb.2 b hb).trans e) f0 f1 f3 f4 f5
    obtain ⟨o, e, c, d⟩ := id st'
    exact ⟨u, rfl, go_of (s := { s with heap := h' }) e c d (by decide) ⟨x, H, I1, ru, ⟨rfl, fun ys hy => by rw [I.list_inj hy hq]; exact hx⟩, st', fun b hb => (hf b hb).1⟩⟩
  done := by
    intro X hP hw hK hc i pins s σ H E I hf st hg
    subst hP hw hK
    obtain ⟨xs, hq, hx⟩ := hg
    obtain ⟨its, rv, p, hz⟩ := I.list hq
    obtain ⟨f0, f1, f2, f3, f4, f5⟩ := hf it (by simp)
    have hl := rv.length
    exact wpAny_pyNext_list_end (I.ok.hd hc) st p.isList (by simp; omega) fun h' eb => ⟨rfl, I.turned (t' := s.toks) (fun b o hb e => eb b o hb e) f0 f1 f3 f4 f5⟩
  self := fun _ _ _ _ _ st h => wpAny_pyIter_listiter st h
theorem turn_tuple {P : Program} {w : World} {K : PySem.W.Frag} {tg : Expr} (a it : Addr) : Turn P w K tg (Itt K a) [it] it (fun i h => h.IsTupleIter it a i) where
  mem := by simp
  obj := fun i h st b hb => by
    have e : b = it := by simpa using hb
    subst e
    obtain ⟨o, e, c, d⟩ := st
    exact ⟨o, e, fun v z => by rw [d] at z; cases z⟩
  keep := fun i h h' st k => st.at fun o e => k it (by simp) o e
  item := by
    intro X hP hw hK hc i pins s σ H E I hf st hg
    subst hP hw hK
    obtain ⟨xs, x, hq, hx⟩ := hg
    obtain ⟨its, rv, p, hz⟩ := I.tuple hq
    obtain ⟨u, hu, ru⟩ := rv.get hx
    obtain ⟨f0, f1, f2, f3, f4, f5⟩ := hf it (by simp)
    refine wpAny_pyNext_tuple_item st (show s.heap.IsTuple a its.toArray from p) (x := u) (by simpa using hu) fun h' st' sb => ?_
    have I1 : Inv X pins σ H { s with heap := h' } := I.turned (t' := s.toks) (fun b o hb e => (sb.2 b hb).trans e) f0 f1 f3 f4 f5
    obtain ⟨o, e, c, d⟩ := id st'
    exact ⟨u, rfl, go_of (s := { s with heap := h' }) e c d (by decide) ⟨x, H, I1, ru, ⟨rfl, fun ys hy => by rw [I.tuple_inj hy hq]; exact hx⟩, st', fun b hb => (hf b hb).1⟩⟩
  done := by
    intro X hP hw hK hc i pins s σ H E I hf st hg
    subst hP hw hK
    obtain ⟨xs, hq, hx⟩ := hg
    obtain ⟨its, rv, p, hz⟩ := I.tuple hq
    obtain ⟨f0, f1, f2, f3, f4, f5⟩ := hf it (by simp)
    have hl := rv.length
    exact wpAny_pyNext_tuple_end (I.ok.hd hc) st (show s.heap.IsTuple a its.toArray from p) (by simp; omega) fun h' eb => ⟨rfl, I.turned (t' := s.toks) (fun b o hb e => eb b o hb e) f0 f1 f3 f4 f5⟩
  self := fun _ _ _ _ _ st h => wpAny_pyIter_tupleiter st h
theorem turn_range {P : Program} {w : World} {K : PySem.W.Frag} {tg : Expr} (it : Addr) (lo : Int) (n : Nat) : Turn P w K tg (Itr lo n) [it] it (fun i h => IsRangeIter h it (lo + (i : Nat) * 1) ((n : Int) - (i : Nat)) 1) where
  mem := by simp
  obj := fun i h st b hb => by
    have e : b = it := by simpa using hb
    subst e
    exact ⟨_, st, fun v z => by
      have z' : Data.fields _ = Data.cell v := z
      cases z'⟩
  keep := fun i h h' st k => k it (by simp) _ st
  item := by
    intro X hP hw hK hc i pins s σ H E I hf st hg
    subst hP hw hK
    obtain ⟨f0, f1, f2, f3, f4, f5⟩ := hf it (by simp)
    have W := Walks.range (prog := X.prog) (w := X.w) (I.ok.hd hc) it lo 1 n
    refine W.item i s _ _ hg st fun v h' tk hv st' kk => ?_
    obtain ⟨t, rfl⟩ := hv
    have I1 : Inv X pins σ H { s with heap := h', toks := tk } := I.turned (fun b o hb e => kk b o (by simpa using hb) e) f0 f1 f3 f4 f5
    refine ⟨_, rfl, go_of (s := { s with heap := h', toks := tk }) (n := "range_iterator") st' rfl rfl (by decide) ⟨.int (lo + i), H, I1, ⟨t, ?_⟩, ⟨rfl, rfl⟩, st', fun b hb => (hf b hb).1⟩⟩
    rw [Int.mul_one]
  done := by
    intro X hP hw hK hc i pins s σ H E I hf st hg
    subst hP hw hK
    obtain ⟨f0, f1, f2, f3, f4, f5⟩ := hf it (by simp)
    exact wpAny_pyNext_range_end (I.ok.hd hc) st (by have : n ≤ i := hg; omega) fun h' eb => ⟨rfl, I.turned (t' := s.toks) (fun b o hb e => eb b o hb e) f0 f1 f3 f4 f5⟩
  self := fun _ _ _ _ _ st h => wpAny_pyIter_rangeiter st h
end L2
namespace L2
open PySem PySem.Spec PyProof.Rows
section
variable {X : Cx} {tg : Expr}
def iList (K : PySem.W.Frag) (tl : TE) : TI := fun σ H R => tl σ H fun x H1 => ∃ a, x = .ref a ∧ (∃ xs, SqL K H1 a xs) ∧ R (Itl K a) H1
def iTup (K : PySem.W.Frag) (tl : TE) : TI := fun σ H R => tl σ H fun x H1 => ∃ a, x = .ref a ∧ (∃ xs, SqT K H1 a xs) ∧ R (Itt K a) H1
theorem pi_list {l : Expr} {tl : TE} (hl : PE X l tl) : PI X tg l (iList X.K tl) := by
  intro pins s σ H R I h
  refine thn (hl pins s σ H _ I h) fun v s1 ⟨x, H1, I1, r1, q1⟩ => ?_
  obtain ⟨a, e, ⟨xs, hq⟩, q⟩ := q1
  subst e
  cases r1
  obtain ⟨its, rv, p, hz⟩ := I1.list hq
  refine wpAny_pyIter_list p.isList ?_
  refine ⟨s1.heap.objs.size, [s1.heap.objs.size], _, _, H1, rfl, I1.kept (t' := s1.toks) fun b o e => Heap.get?_push_of_some _ e, turn_list a _, ⟨_, Heap.get?_push_size _ rfl, rfl, rfl⟩, fun b hb => ?_, q⟩
  have e : b = s1.heap.objs.size := by simpa using hb
  subst e
  exact I1.fpOk (Nat.le_refl _) (I1.hok.fresh (Nat.le_refl _))
theorem pi_tup {l : Expr} {tl : TE} (hl : PE X l tl) : PI X tg l (iTup X.K tl) := by
  intro pins s σ H R I h
  refine thn (hl pins s σ H _ I h) fun v s1 ⟨x, H1, I1, r1, q1⟩ => ?_
  obtain ⟨a, e, ⟨xs, hq⟩, q⟩ := q1
  subst e
  cases r1
  obtain ⟨its, rv, p, hz⟩ := I1.tuple hq
  refine wpAny_pyIter_tuple (show s1.heap.IsTuple a its.toArray from p) ?_
  refine ⟨s1.heap.objs.size, [s1.heap.objs.size], _, _, H1, rfl, I1.kept (t' := s1.toks) fun b o e => Heap.get?_push_of_some _ e, turn_tuple a _, ⟨_, Heap.get?_push_size _ rfl, rfl, rfl⟩, fun b hb => ?_, q⟩
  have e : b = s1.heap.objs.size := by simpa using hb
  subst e
  exact I1.fpOk (Nat.le_refl _) (I1.hok.fresh (Nat.le_refl _))
theorem range_it {pins : List (Addr × Obj)} {σ : St} {H : Hp} {s : Shared} {R : It → Hp → Prop} {E : Value → Shared → Prop} {lo hi : Int} {t u v : Tok} {tk : Nat} (I : Inv X pins σ H s) (h1 : -(2 ^ 62) ≤ lo) (h2 : lo < 2 ^ 62) (h3 : -(2 ^ 62) ≤ hi) (h4 : hi < 2 ^ 62)
    (q : R (Itr lo (hi - lo).toNat) H) : wpAny (model X.prog X.w) X.A (pyIter (.ref s.heap.objs.size)) (PIE X pins σ tg R) E { s with heap := s.heap.push { cls := .type "range", data := .fields #[.int lo t, .int hi u, .int 1 v] }, toks := tk } := by
  refine wpAny_pyIter_range (IsRange.new ..) (small_one h1 h2 h3 h4) ?_
  have I1 : Inv X pins σ H { s with heap := s.heap.push { cls := .type "range", data := .fields #[.int lo t, .int hi u, .int 1 v] }, toks := tk } := I.kept fun b o e => Heap.get?_push_of_some _ e
  refine ⟨(s.heap.push { cls := .type "range", data := .fields #[.int lo t, .int hi u, .int 1 v] }).objs.size, [(s.heap.push { cls := .type "range", data := .fields #[.int lo t, .int hi u, .int 1 v] }).objs.size], _, _, H, rfl,
    I1.kept (t' := tk) fun b o e => Heap.get?_push_of_some _ e, turn_range _ lo (hi - lo).toNat, ?_, fun b hb => ?_, q⟩
  · have e1 : lo + ((0 : Nat) : Int) * 1 = lo := by simp
    have e2 : (((hi - lo).toNat : Nat) : Int) - ((0 : Nat) : Int) = Builtin.Range.rangeSize lo hi 1 := by rw [rangeSize_one]; split <;> omega
    show IsRangeIter _ _ (lo + ((0 : Nat) : Int) * 1) ((((hi - lo).toNat : Nat) : Int) - ((0 : Nat) : Int)) 1
    rw [e1, e2]
    exact Heap.get?_push_size _ rfl
  · have e : b = (s.heap.push { cls := .type "range", data := .fields #[.int lo t, .int hi u, .int 1 v] }).objs.size := by simpa using hb
    subst e
    exact I1.fpOk (Nat.le_refl _) (I1.hok.fresh (Nat.le_refl _))
def iRng1 (ta : TA) : TI := fun σ H R => ta σ H fun vs H1 => ∃ j : Int, vs = [.int j] ∧ -(2 ^ 62) ≤ j ∧ j < 2 ^ 62 ∧ R (Itr 0 j.toNat) H1
def iRng2 (ta : TA) : TI := fun σ H R => ta σ H fun vs H1 => ∃ i j : Int, vs = [.int i, .int j] ∧ (-(2 ^ 62) ≤ i ∧ i < 2 ^ 62 ∧ -(2 ^ 62) ≤ j ∧ j < 2 ^ 62) ∧ R (Itr i (j - i).toNat) H1
theorem pi_range1 {a : Expr} {ta : TA} {p pos : Pos} (hg : Gl X "range") (hm : X.mg "range" = none) (ha : PA X [a] ta) (hs : starEach [a] X.env = [(false, eval a X.env)] := by rfl) : PI X tg (.Call (.Name "range" p) [a] [] pos) (iRng1 ta) := by
  intro pins s σ H R I h
  refine Call_ (ld_blt I hg hm boot_range (PyProof.Rows.callWith_type1 (thn (ha pos pins s σ H _ I h) fun us s1 ⟨vs, H1, I1, r1, q1⟩ => ?_) hs rfl))
  obtain ⟨j, e, q1, q2, q⟩ := q1
  subst e
  cases r1 with
  | cons r rr =>
    cases rr
    obtain ⟨t, rfl⟩ := r
    exact call_range_1 (range_it I1 (by omega) (by omega) q1 q2 (by simpa using q))
theorem pi_range2 {a b : Expr} {ta : TA} {p pos : Pos} (hg : Gl X "range") (hm : X.mg "range" = none) (ha : PA X [a, b] ta) (hs : starEach [a, b] X.env = [(false, eval a X.env), (false, eval b X.env)] := by rfl) (hs2 : starEach [b] X.env = [(false, eval b X.env)] := by rfl) :
    PI X tg (.Call (.Name "range" p) [a, b] [] pos) (iRng2 ta) := by
  intro pins s σ H R I h
  refine Call_ (ld_blt I hg hm boot_range (PyProof.Rows.callWith_type1 (thn (ha pos pins s σ H _ I h) fun us s1 ⟨vs, H1, I1, r1, q1⟩ => ?_) (by rw [hs, hs2]) (by rw [hs2]; rfl)))
  obtain ⟨i, j, e, ⟨q1, q2, q3, q4⟩, q⟩ := q1
  subst e
  cases r1 with
  | cons r rr =>
    cases rr with
    | cons r' rr =>
      cases rr
      obtain ⟨t, rfl⟩ := r
      obtain ⟨t', rfl⟩ := r'
      exact call_range_2 (range_it I1 q1 q2 q3 q4 q)
def tFor (wi : TI) (g : TG) (tb : TS) : TS := fun D σ H => wi σ H fun J H1 => ∃ W : Nat → Nat → St → Hp → Prop, (∃ m, W 0 m σ H1) ∧ ∀ i m σ H, W i m σ H →
  (J.stop i H ∧ D.nx σ H) ∨ (J.go i H ∧ ∃ N : St → Hp → Prop, (∀ σ' H', N σ' H' → ∃ m', m' < m ∧ W (i + 1) m' σ' H') ∧ ∀ x H', J.yld i H x H' → g x σ H' fun σ2 H2 => tb { D with nx := N, ct := N, bk := D.nx } σ2 H2)
def pinsAt (fp : List Addr) (h : Heap) : List (Addr × Obj) := fp.filterMap fun b => (h.get? b).map fun o => (b, o)
theorem mem_pinsAt {fp : List Addr} {h : Heap} {b : Addr} {o : Obj} (hb : b ∈ fp) (e : h.get? b = some o) : (b, o) ∈ pinsAt fp h := List.mem_filterMap.mpr ⟨b, hb, by rw [e]; rfl⟩
theorem of_pinsAt {fp : List Addr} {h : Heap} {p : Addr × Obj} (hp : p ∈ pinsAt fp h) : p.1 ∈ fp ∧ h.get? p.1 = some p.2 := by
  obtain ⟨b, hb, e⟩ := List.mem_filterMap.mp hp
  cases q : h.get? b with
  | none => rw [q] at e; cases e
  | some o =>
    rw [q] at e
    have e' : (b, o) = p := Option.some.inj e
    subst e'
    exact ⟨hb, q⟩
theorem Inv.pinned {pins : List (Addr × Obj)} {σ : St} {H : Hp} {s : Shared} {fp : List Addr} (I : Inv X pins σ H s) (hf : ∀ b ∈ fp, FpOk X pins H b) (ho : ∀ b ∈ fp, ∃ o, s.heap.get? b = some o ∧ ∀ v, o.data ≠ .cell v) : Inv X (pins ++ pinsAt fp s.heap) σ H s :=
  I.pins_of fun p hp => (List.mem_append.mp hp).elim (fun z => I.pin p (List.mem_append_right _ z)) fun z => by
    obtain ⟨hb, e⟩ := of_pinsAt z
    obtain ⟨f0, f1, f2, _⟩ := hf p.1 hb
    obtain ⟨o, e', d⟩ := ho p.1 hb
    rw [e] at e'; cases e'
    exact ⟨e, f0, f1, f2, d⟩
theorem Inv.unpinned {pins pl : List (Addr × Obj)} {σ : St} {H : Hp} {s : Shared} (I : Inv X (pins ++ pl) σ H s) : Inv X pins σ H s := I.pins_of fun p hp => I.pin p (List.mem_append_right _ (List.mem_append_left _ hp))
theorem ps_for {iter : Expr} {body : List Stmt} {wi : TI} {g : TG} {tb : TS} {pos : Pos} (hp : PassesOwn (model X.prog X.w) X.A X.env X.xe) (hc : X.calm = true) (hi : PI X tg iter wi) (hg : PG X tg g) (hb : PSs X body tb)
    (hs : ∀ x, foldedSetIterable iter X.env x = pure x := by intro _; rfl) : PS X (.For tg iter body [] pos) (tFor wi g tb) := by
  intro pins s σ H D I h
  refine wpAny_For (thn (hi pins s σ H _ I h) fun v s1 h1 => thn h1 fun itv s2 h2 => ?_) hs
  obtain ⟨it, fp, tn, J, H2, e, I2, T, st2, f2, W, ⟨m0, w0⟩, turn⟩ := h2
  subst e
  -- what stays true of the iterator's objects through the loop
  have stat : ∀ {H' : Hp}, (∀ b ∈ fp, H' b = none) → ∀ b ∈ fp, FpOk X pins H' b := fun hn b hb => ⟨hn b hb, (f2 b hb).2⟩
  refine codeAny_forLoop_any (fun n s' => ∃ i σ' H', Inv X pins σ' H' s' ∧ tn i s'.heap ∧ (∀ b ∈ fp, H' b = none) ∧ W i n σ' H') ?_ m0 ⟨0, σ, H2, I2, st2, fun b hb => (f2 b hb).1, w0⟩
  rintro n s3 ⟨i, σ3, H3, I3, st3, fr3, w3⟩
  rcases turn i n σ3 H3 w3 with ⟨stop, qn⟩ | ⟨go, N, hN, step⟩
  · refine wpAny_passesOwn hp (thn (T.done X rfl rfl rfl hc i pins s3 σ3 H3 X.xe I3 (stat fr3) st3 stop) fun r s4 ⟨hr, I4⟩ => ?_)
    subst hr
    exact wpAny_execs_nil ⟨σ3, H3, I4, qn⟩
  · refine wpAny_passesOwn hp (thn (T.item X rfl rfl rfl hc i pins s3 σ3 H3 X.xe I3 (stat fr3) st3 go) fun r s4 ⟨u, hr, h4⟩ => ?_)
    subst hr
    refine wpAny_passesOwn hp (thn h4 fun _ s5 ⟨x, H5, I5, r5, y5, st5, fr5⟩ => ?_)
    have I5' := I5.pinned (stat fr5) (T.obj _ _ st5)
    refine wpAny_passesOwn hp (thn (hg _ s5 σ3 H5 x u _ I5' r5 (step x H5 y5)) fun _ s6 ⟨σ6, H6, I6, q6⟩ => ?_)
    refine wpAny_passesOwn hp (thn (hb _ s6 σ6 H6 _ I6 q6) fun f s7 q7 => ?_)
    have again : ∀ {σ7 : St} {H7 : Hp}, Inv X (pins ++ pinsAt fp s5.heap) σ7 H7 s7 → N σ7 H7 → ∃ m, m < n ∧ ∃ i σ' H', Inv X pins σ' H' s7 ∧ tn i s7.heap ∧ (∀ b ∈ fp, H' b = none) ∧ W i m σ' H' := fun {σ7 H7} I7 n7 => by
      obtain ⟨m', hm, w7⟩ := hN σ7 H7 n7
      refine ⟨m', hm, i + 1, σ7, H7, I7.unpinned, T.keep _ _ _ st5 fun b hb o e => (I7.pin (b, o) (List.mem_append_right _ (List.mem_append_right _ (mem_pinsAt hb e)))).1, fun b hb => ?_, w7⟩
      obtain ⟨o, e, d⟩ := T.obj _ _ st5 b hb
      exact (I7.pin (b, o) (List.mem_append_right _ (List.mem_append_right _ (mem_pinsAt hb e)))).2.1
    cases f with
    | next => obtain ⟨σ7, H7, I7, n7⟩ := q7; exact again I7 n7
    | cont => obtain ⟨σ7, H7, I7, n7⟩ := q7; exact again I7 n7
    | brk => obtain ⟨σ7, H7, I7, q7⟩ := q7; exact ⟨σ7, H7, I7.unpinned, q7⟩
    | ret v => obtain ⟨x7, σ7, H7, I7, r7, q7⟩ := q7; exact ⟨x7, σ7, H7, I7.unpinned, r7, q7⟩
end
theorem for_range {lo : Int} {n : Nat} {g : TG} {tb : TS} {D : Ends} {σ : St} {H : Hp} (Pv : Nat → St → Hp → Prop) (h0 : Pv 0 σ H)
    (hs : ∀ i σ H, i < n → Pv i σ H → g (.int (lo + i)) σ H fun σ2 H2 => tb { D with nx := Pv (i + 1), ct := Pv (i + 1), bk := D.nx } σ2 H2) (hd : ∀ σ H, Pv n σ H → D.nx σ H) :
    ∃ W : Nat → Nat → St → Hp → Prop, (∃ m, W 0 m σ H) ∧ ∀ i m σ H, W i m σ H →
      ((Itr lo n).stop i H ∧ D.nx σ H) ∨ ((Itr lo n).go i H ∧ ∃ N : St → Hp → Prop, (∀ σ' H', N σ' H' → ∃ m', m' < m ∧ W (i + 1) m' σ' H') ∧ ∀ x H', (Itr lo n).yld i H x H' → g x σ H' fun σ2 H2 => tb { D with nx := N, ct := N, bk := D.nx } σ2 H2) := by
  refine ⟨fun i m σ H => m = n - i ∧ i ≤ n ∧ Pv i σ H, ⟨n, by simp, Nat.zero_le _, h0⟩, ?_⟩
  rintro i m σ H ⟨rfl, hi, p⟩
  by_cases hlt : i < n
  · refine .inr ⟨hlt, Pv (i + 1), fun σ' H' p' => ⟨n - (i + 1), by omega, rfl, hlt, p'⟩, fun x H' y => ?_⟩
    obtain ⟨e, y⟩ := y
    subst e y
    exact hs i σ _ hlt p
  · have e : i = n := by omega
    subst e
    exact .inl ⟨Nat.le_refl _, hd σ H p⟩
end L2
namespace L2
open PySem PySem.Spec PyProof.Rows
abbrev R2 := V → V → Hp → VK → Prop
def OpR (X : Cx) (f : Value → Value → Sem Value) (r : R2) : Prop :=
  ∀ (pins : List (Addr × Obj)) (s : Shared) (σ : St) (H : Hp) (x y : V) (v u : Value) (Q : VK), Inv X pins σ H s → RelV x v → RelV y u → r x y H Q →
    wpAny (model X.prog X.w) X.A (f v u) (EP X pins σ Q) X.xe s
def UnR (X : Cx) (f : Value → Sem Value) (r : V → Hp → VK → Prop) : Prop :=
  ∀ (pins : List (Addr × Obj)) (s : Shared) (σ : St) (H : Hp) (x : V) (v : Value) (Q : VK), Inv X pins σ H s → RelV x v → r x H Q →
    wpAny (model X.prog X.w) X.A (f v) (EP X pins σ Q) X.xe s
def CallR (X : Cx) (f : Value) (r : List V → Hp → VK → Prop) : Prop :=
  ∀ (pins : List (Addr × Obj)) (s : Shared) (σ : St) (H : Hp) (xs : List V) (us : List Value) (Q : VK), Inv X pins σ H s → Vals xs us → r xs H Q →
    wpAny (model X.prog X.w) X.A (call f us) (EP X pins σ Q) X.xe s
def TruR (X : Cx) (r : V → Hp → (Bool → Hp → Prop) → Prop) : Prop :=
  ∀ (pins : List (Addr × Obj)) (s : Shared) (σ : St) (H : Hp) (x : V) (v : Value) (Q : Bool → Hp → Prop), Inv X pins σ H s → RelV x v → r x H Q →
    wpAny (model X.prog X.w) X.A (truthy v) (TP X pins σ Q) X.xe s
def tOp (r : R2) (ta tb : TE) : TE := fun σ H Q => ta σ H fun x H1 => tb σ H1 fun y H2 => r x y H2 Q
def tUn (r : V → Hp → VK → Prop) (ta : TE) : TE := fun σ H Q => ta σ H fun x H1 => r x H1 Q
def rI (C : Int → Int → Prop) (g : Int → Int → V) : R2 := fun x y H Q => ∃ i j, x = .int i ∧ y = .int j ∧ C i j ∧ Q (g i j) H
def rI0 (g : Int → Int → V) : R2 := fun x y H Q => ∃ i j, x = .int i ∧ y = .int j ∧ Q (g i j) H
def rU (g : Int → V) : V → Hp → VK → Prop := fun x H Q => ∃ i, x = .int i ∧ Q (g i) H
section
variable {X : Cx} {a b c : Expr} {ta tb tc : TE} {pos : Pos}
theorem binT (ha : PE X a ta) (hb : PE X b tb) {pins : List (Addr × Obj)} {s : Shared} {σ : St} {H : Hp} {R : V → V → Hp → Prop} (I : Inv X pins σ H s)
    (h : ta σ H fun x H1 => tb σ H1 fun y H2 => R x y H2) {Q : Value → Shared → Prop} {f : Value → Value → Sem Value}
    (hf : ∀ v u s2 x y H2, Inv X pins σ H2 s2 → RelV x v → RelV y u → R x y H2 → wpAny (model X.prog X.w) X.A (f v u) Q X.xe s2) :
    wpAny (model X.prog X.w) X.A (eval a X.env) (fun v s₁ => wpAny (model X.prog X.w) X.A (eval b X.env) (fun u s₂ => wpAny (model X.prog X.w) X.A (f v u) Q X.xe s₂) X.xe s₁) X.xe s := by
  refine thn (ha pins s σ H _ I h) fun v s1 ⟨x, H1, I1, r1, q1⟩ => ?_
  refine thn (hb pins s1 σ H1 _ I1 q1) fun u s2 ⟨y, H2, I2, r2, q2⟩ => ?_
  exact hf v u s2 x y H2 I2 r1 r2 q2
theorem pe_op {op : Operator} {r : R2} (ho : OpR X (binaryOp op) r) (ha : PE X a ta) (hb : PE X b tb) : PE X (.BinOp a op b pos) (tOp r ta tb) := by
  intro pins s σ H Q I h
  exact wpAny_BinOp (binT ha hb I h fun v u s2 x y H2 I2 rx ry q => ho pins s2 σ H2 x y v u Q I2 rx ry q)
theorem opI {f : Value → Value → Sem Value} {C : Int → Int → Prop} {g : Int → Int → Int}
    (rule : ∀ (i j : Int) (t u : Tok) (s : Shared) (Q : Value → Shared → Prop) (E : Value → Shared → Prop), C i j → Q (.int (g i j) s.toks) { s with toks := s.toks + 1 } → wpAny (model X.prog X.w) X.A (f (.int i t) (.int j u)) Q E s) :
    OpR X f (rI C fun i j => .int (g i j)) := by
  intro pins s σ H x y v u Q I rx ry h
  obtain ⟨i, j, rfl, rfl, hc, q⟩ := h
  obtain ⟨t, rfl⟩ := rx
  obtain ⟨t', rfl⟩ := ry
  exact rule i j t t' s _ _ hc ⟨.int (g i j), H, I.tok _, ⟨_, rfl⟩, q⟩
theorem opI0 {f : Value → Value → Sem Value} {g : Int → Int → Int}
    (rule : ∀ (i j : Int) (t u : Tok) (s : Shared) (Q : Value → Shared → Prop) (E : Value → Shared → Prop), Q (.int (g i j) s.toks) { s with toks := s.toks + 1 } → wpAny (model X.prog X.w) X.A (f (.int i t) (.int j u)) Q E s) :
    OpR X f (rI0 fun i j => .int (g i j)) := by
  intro pins s σ H x y v u Q I rx ry h
  obtain ⟨i, j, rfl, rfl, q⟩ := h
  obtain ⟨t, rfl⟩ := rx
  obtain ⟨t', rfl⟩ := ry
  exact rule i j t t' s _ _ ⟨.int (g i j), H, I.tok _, ⟨_, rfl⟩, q⟩
theorem opB0 {f : Value → Value → Sem Value} {g : Int → Int → Bool}
    (rule : ∀ (i j : Int) (t u : Tok) (s : Shared) (Q : Value → Shared → Prop) (E : Value → Shared → Prop), Q (.bool (g i j)) s → wpAny (model X.prog X.w) X.A (f (.int i t) (.int j u)) Q E s) :
    OpR X f (rI0 fun i j => .bl (g i j)) := by
  intro pins s σ H x y v u Q I rx ry h
  obtain ⟨i, j, rfl, rfl, q⟩ := h
  obtain ⟨t, rfl⟩ := rx
  obtain ⟨t', rfl⟩ := ry
  exact rule i j t t' s _ _ ⟨.bl (g i j), H, I, rfl, q⟩
def CDiv (i j : Int) : Prop := 0 < j ∧ j < 1073741824
def CDivN (i j : Int) : Prop := j ≠ 0 ∧ j.natAbs < 1073741824
def CPow (i j : Int) : Prop := 0 ≤ j ∧ j ≤ 1000000 ∧ i.natAbs < 2 ^ 64
def CMul (i j : Int) : Prop := (-(2 ^ 64) < i ∧ i < 2 ^ 64) ∨ (-(2 ^ 64) < j ∧ j < 2 ^ 64)
theorem CMul.ok {i j : Int} (h : CMul i j) : IntMulOk i j := by
  rcases h with ⟨h1, h2⟩ | ⟨h1, h2⟩
  · exact .of_left (intBits_le_64 h1 h2)
  · exact .of_right (intBits_le_64 h1 h2)
theorem op_add : OpR X (binaryOp .Add) (rI0 fun i j => .int (i + j)) := opI0 fun _ _ _ _ _ _ _ q => add_int q
theorem op_sub : OpR X (binaryOp .Sub) (rI0 fun i j => .int (i - j)) := opI0 fun _ _ _ _ _ _ _ q => sub_int q
theorem op_mul : OpR X (binaryOp .Mult) (rI CMul fun i j => .int (i * j)) := opI fun _ _ _ _ _ _ _ hc q => mul_int q hc.ok
theorem op_fdiv : OpR X (binaryOp .FloorDiv) (rI CDiv fun i j => .int (i / j)) := opI fun i j _ _ _ _ _ hc q => by
  have h1 : (0 : Int) < j := hc.1
  have h2 : j < 1073741824 := hc.2
  exact floordiv_int (by omega) (by rw [Int.fdiv_eq_ediv_of_nonneg i (by omega)]; exact q) (.inl (PyProof.noPylong_small (by omega)))
theorem op_mod : OpR X (binaryOp .Mod) (rI (fun _ j => 0 < j) fun i j => .int (i % j)) := opI fun i j _ _ _ _ _ hc q => by
  have h1 : (0 : Int) < j := hc
  exact mod_int' (by omega) (by rw [Int.fmod_eq_emod_of_nonneg i (by omega)]; exact q)
theorem op_pow : OpR X (binaryOp .Pow) (rI CPow fun i j => .int (i ^ j.toNat)) := opI fun _ _ _ _ _ _ _ hc q => pow_int_small hc.1 hc.2.1 hc.2.2 q
end
def scal : V → V → Bool
  | .non, .non => true | .non, .int _ => true | .int _, .non => true | .non, .bl _ => true | .bl _, .non => true | .non, .str _ => true | .str _, .non => true
  | .int _, .int _ => true | .bl _, .bl _ => true | .str _, .str _ => true | .byt _, .byt _ => true
  | .int _, .str _ => true | .str _, .int _ => true | .bl _, .str _ => true | .str _, .bl _ => true
  | _, _ => false
def rEq : R2 := fun x y H Q => scal x y = true ∧ Q (.bl (decide (x = y))) H
def rNe : R2 := fun x y H Q => scal x y = true ∧ Q (.bl (!decide (x = y))) H
theorem dec_int {i j : Int} : decide (V.int i = V.int j) = (i == j) := by
  rw [Bool.eq_iff_iff]
  simp
theorem dec_bl {i j : Bool} : decide (V.bl i = V.bl j) = (i == j) := by
  rw [Bool.eq_iff_iff]
  simp
theorem dec_str {i j : Str} : decide (V.str i = V.str j) = (i == j) := by
  rw [Bool.eq_iff_iff]
  simp
theorem dec_byt {i j : Array UInt8} : decide (V.byt i = V.byt j) = (i.toList == j.toList) := by
  rw [Bool.eq_iff_iff]
  cases i
  cases j
  simp
section
variable {X : Cx} {a b c : Expr} {ta tb tc : TE} {pos : Pos}
theorem fin_bl {pins : List (Addr × Obj)} {σ : St} {H : Hp} {s : Shared} {Q : VK} {k k' : Bool} (I : Inv X pins σ H s) (q : Q (.bl k) H) (e : k = k') : EP X pins σ Q (.bool k') s := by
  subst e
  exact ⟨.bl k, H, I, rfl, q⟩
theorem op_eq : OpR X (compareOp .Eq) rEq := by
  intro pins s σ H x y v u Q I rx ry h
  obtain ⟨hs, q⟩ := h
  cases x with
  | non =>
    cases rx
    cases y with
    | non => cases ry; exact PySem.EqNone.eq_none_none (fin_bl I q (by simp))
    | bl j => cases ry; exact PySem.EqNone.eq_none_bool (fin_bl I q (by simp))
    | int j => obtain ⟨t', rfl⟩ := ry; exact PySem.EqNone.eq_none_int (fin_bl I q (by simp))
    | str j => obtain ⟨t', rfl⟩ := ry; exact PySem.EqNone.eq_none_str (fin_bl I q (by simp))
    | _ => exact absurd (show false = true from hs) Bool.false_ne_true
  | bl i =>
    cases rx
    cases y with
    | non => cases ry; exact PySem.EqNone.eq_bool_none (fin_bl I q (by simp))
    | bl j => cases ry; exact eq_bool (fin_bl I q dec_bl)
    | str j => obtain ⟨t', rfl⟩ := ry; exact PySem.EqMixed.eq_bool_str (fin_bl I q (by simp))
    | _ => exact absurd (show false = true from hs) Bool.false_ne_true
  | int i =>
    obtain ⟨t, rfl⟩ := rx
    cases y with
    | non => cases ry; exact PySem.EqNone.eq_int_none (fin_bl I q (by simp))
    | int j => obtain ⟨t', rfl⟩ := ry; exact eq_int (fin_bl I q dec_int)
    | str j => obtain ⟨t', rfl⟩ := ry; exact PySem.EqMixed.eq_int_str (fin_bl I q (by simp))
    | _ => exact absurd (show false = true from hs) Bool.false_ne_true
  | str i =>
    obtain ⟨t, rfl⟩ := rx
    cases y with
    | non => cases ry; exact PySem.EqNone.eq_str_none (fin_bl I q (by simp))
    | bl j => cases ry; exact PySem.EqMixed.eq_str_bool (fin_bl I q (by simp))
    | int j => obtain ⟨t', rfl⟩ := ry; exact PySem.EqMixed.eq_str_int (fin_bl I q (by simp))
    | str j => obtain ⟨t', rfl⟩ := ry; exact eq_str (fin_bl I q dec_str)
    | _ => exact absurd (show false = true from hs) Bool.false_ne_true
  | byt i =>
    obtain ⟨t, rfl⟩ := rx
    cases y with
    | byt j => obtain ⟨t', rfl⟩ := ry; exact PySem.W.eq_bytes (fin_bl I q dec_byt)
    | _ => exact absurd (show false = true from hs) Bool.false_ne_true
  | _ => cases y <;> exact absurd (show false = true from hs) Bool.false_ne_true
theorem op_ne : OpR X (compareOp .NotEq) rNe := by
  intro pins s σ H x y v u Q I rx ry h
  obtain ⟨hs, q⟩ := h
  cases x with
  | non =>
    cases rx
    cases y with
    | non => cases ry; exact PySem.EqNone.ne_none_none (fin_bl I q (by simp))
    | bl j => cases ry; exact PySem.EqNone.ne_none_bool (fin_bl I q (by simp))
    | int j => obtain ⟨t', rfl⟩ := ry; exact PySem.EqNone.ne_none_int (fin_bl I q (by simp))
    | str j => obtain ⟨t', rfl⟩ := ry; exact PySem.EqNone.ne_none_str (fin_bl I q (by simp))
    | _ => exact absurd (show false = true from hs) Bool.false_ne_true
  | bl i =>
    cases rx
    cases y with
    | non => cases ry; exact PySem.EqNone.ne_bool_none (fin_bl I q (by simp))
    | bl j => cases ry; exact ne_bool (fin_bl I q (congrArg not dec_bl))
    | str j => obtain ⟨t', rfl⟩ := ry; exact PySem.EqMixed.ne_bool_str (fin_bl I q (by simp))
    | _ => exact absurd (show false = true from hs) Bool.false_ne_true
  | int i =>
    obtain ⟨t, rfl⟩ := rx
    cases y with
    | non => cases ry; exact PySem.EqNone.ne_int_none (fin_bl I q (by simp))
    | int j => obtain ⟨t', rfl⟩ := ry; exact ne_int (fin_bl I q (congrArg not dec_int))
    | str j => obtain ⟨t', rfl⟩ := ry; exact PySem.EqMixed.ne_int_str (fin_bl I q (by simp))
    | _ => exact absurd (show false = true from hs) Bool.false_ne_true
  | str i =>
    obtain ⟨t, rfl⟩ := rx
    cases y with
    | non => cases ry; exact PySem.EqNone.ne_str_none (fin_bl I q (by simp))
    | bl j => cases ry; exact PySem.EqMixed.ne_str_bool (fin_bl I q (by simp))
    | int j => obtain ⟨t', rfl⟩ := ry; exact PySem.EqMixed.ne_str_int (fin_bl I q (by simp))
    | str j => obtain ⟨t', rfl⟩ := ry; exact ne_str (fin_bl I q (congrArg not dec_str))
    | _ => exact absurd (show false = true from hs) Bool.false_ne_true
  | byt i =>
    obtain ⟨t, rfl⟩ := rx
    cases y with
    | byt j => obtain ⟨t', rfl⟩ := ry; exact PySem.W.ne_bytes (fin_bl I q (congrArg not dec_byt))
    | _ => exact absurd (show false = true from hs) Bool.false_ne_true
  | _ => cases y <;> exact absurd (show false = true from hs) Bool.false_ne_true
theorem op_lt : OpR X (compareOp .Lt) (rI0 fun i j => .bl (decide (i < j))) := opB0 fun _ _ _ _ _ _ _ q => lt_int q
theorem op_le : OpR X (compareOp .LtE) (rI0 fun i j => .bl (decide (i ≤ j))) := opB0 fun _ _ _ _ _ _ _ q => le_int q
theorem op_gt : OpR X (compareOp .Gt) (rI0 fun i j => .bl (decide (j < i))) := opB0 fun _ _ _ _ _ _ _ q => gt_int q
theorem op_ge : OpR X (compareOp .GtE) (rI0 fun i j => .bl (decide (j ≤ i))) := opB0 fun _ _ _ _ _ _ _ q => ge_int q
theorem op_isN : OpR X (compareOp .Is) (fun x y H Q => y = .non ∧ Q (.bl (decide (x = .non))) H) := by
  intro pins s σ H x y v u Q I rx ry h
  obtain ⟨rfl, q⟩ := h
  cases ry
  refine is_none_gen (fin_bl I q ?_)
  cases x <;> first
    | (cases rx; rfl)
    | (obtain ⟨t, rfl⟩ := rx; rfl)
def isObj : HO → Bool
  | .lst _ => true
  | .ins _ _ _ => true
  | _ => false
theorem OpR.or {f : Value → Value → Sem Value} {r r' : R2} (h : OpR X f r) (h' : OpR X f r') : OpR X f (fun x y H Q => r x y H Q ∨ r' x y H Q) := by
  intro pins s σ H x y v u Q I rx ry q
  rcases q with q | q
  · exact h pins s σ H x y v u Q I rx ry q
  · exact h' pins s σ H x y v u Q I rx ry q
theorem nomark (b : Expr) {op : CmpOp} (h : op ≠ .In := by decide) (h2 : op ≠ .NotIn := by decide) : behindInMarks op b = false := by
  have e1 : (op == CmpOp.In) = false := by cases op <;> first | rfl | exact absurd rfl h
  have e2 : (op == CmpOp.NotIn) = false := by cases op <;> first | rfl | exact absurd rfl h2
  cases b <;> simp [behindInMarks, e1, e2]
theorem pe_cmpR {op : CmpOp} {r : R2} (ho : OpR X (compareOp op) r) (ha : PE X a ta) (hb : PE X b tb) (hm : behindInMarks op b = false) : PE X (.Compare a [op] [b] pos) (tOp r ta tb) := by
  intro pins s σ H Q I h
  exact wpAny_Compare1 (binT ha hb I h fun v u s2 x y H2 I2 rx ry q => ho pins s2 σ H2 x y v u Q I2 rx ry q) hm
def tTest (t : TE) : TT := fun σ H Q => t σ H fun x H' => ∃ k, x = .bl k ∧ Q k H'
theorem pt_cmpR {op : CmpOp} {r : R2} (ho : OpR X (compareOp op) r) (ha : PE X a ta) (hb : PE X b tb) (hm : behindInMarks op b = false) : PT X (.Compare a [op] [b] pos) (tTest (tOp r ta tb)) := by
  intro pins s σ H Q I h
  refine wpAny_isTrue_Compare1 (thn (ha pins s σ H _ I h) fun v s1 ⟨x, H1, I1, r1, q1⟩ => thn (hb pins s1 σ H1 _ I1 q1) fun u s2 ⟨y, H2, I2, r2, q2⟩ =>
    thn (ho pins s2 σ H2 x y v u _ I2 r1 r2 q2) fun c s3 ⟨z, H3, I3, r3, k, e, q3⟩ => ?_) hm
  subst e
  cases r3
  exact wpAny_truthy_bool ⟨H3, I3, q3⟩
def tChain (r r' : R2) (ta tb tc : TE) : TE := fun σ H Q => ta σ H fun x H1 => tb σ H1 fun y H2 => r x y H2 fun z H3 => ∃ k, z = .bl k ∧
  (if k = true then tc σ H3 fun w' H4 => r' y w' H4 Q else Q (.bl false) H3)
theorem pe_chain {op op' : CmpOp} {r r' : R2} (ho : OpR X (compareOp op) r) (ho' : OpR X (compareOp op') r') (ha : PE X a ta) (hb : PE X b tb) (hc : PE X c tc)
    (hm : lastMarks [op, op'] [b, c] = false := by with_unfolding_all rfl) : PE X (.Compare a [op, op'] [b, c] pos) (tChain r r' ta tb tc) := by
  intro pins s σ H Q I h
  refine Compare_chain (thn (ha pins s σ H _ I h) fun v s1 ⟨x, H1, I1, r1, q1⟩ => chain_link (thn (hb pins s1 σ H1 _ I1 q1) fun u s2 ⟨y, H2, I2, r2, q2⟩ =>
    thn (ho pins s2 σ H2 x y v u _ I2 r1 r2 q2) fun d s3 ⟨z, H3, I3, r3, k, e, q3⟩ => ?_)) hm
  subst e
  cases r3
  refine wpAny_truthy_bool ?_
  cases k with
  | false => exact ite_ff ⟨.bl false, H3, I3, rfl, q3⟩
  | true => exact ite_tt (chain_last (thn (hc pins s3 σ H3 _ I3 q3) fun w' s4 ⟨z', H4, I4, r4, q4⟩ => ho' pins s4 σ H4 y z' u w' Q I4 r2 r4 q4))
theorem pt_chain {op op' : CmpOp} {r r' : R2} (ho : OpR X (compareOp op) r) (ho' : OpR X (compareOp op') r') (ha : PE X a ta) (hb : PE X b tb) (hc : PE X c tc)
    (hm : lastMarks [op, op'] [b, c] = false := by with_unfolding_all rfl) : PT X (.Compare a [op, op'] [b, c] pos) (tTest (tChain r r' ta tb tc)) := by
  intro pins s σ H Q I h
  refine isTrue_chain (thn (ha pins s σ H _ I h) fun v s1 ⟨x, H1, I1, r1, q1⟩ => test_link (thn (hb pins s1 σ H1 _ I1 q1) fun u s2 ⟨y, H2, I2, r2, q2⟩ =>
    thn (ho pins s2 σ H2 x y v u _ I2 r1 r2 q2) fun d s3 ⟨z, H3, I3, r3, k, e, q3⟩ => ?_)) hm
  subst e
  cases r3
  refine wpAny_truthy_bool ?_
  cases k with
  | false =>
    obtain ⟨k', e', q'⟩ := q3
    cases e'
    exact ite_ff ⟨H3, I3, q'⟩
  | true =>
    refine ite_tt (test_last (thn (hc pins s3 σ H3 _ I3 q3) fun w' s4 ⟨z', H4, I4, r4, q4⟩ => thn (ho' pins s4 σ H4 y z' u w' _ I4 r2 r4 q4) fun d' s5 ⟨z2, H5, I5, r5, k2, e2, q5⟩ => ?_))
    subst e2
    cases r5
    exact wpAny_truthy_bool ⟨H5, I5, q5⟩
def TruV (K : PySem.W.Frag) (x : V) (H : Hp) (k : Bool) : Prop :=
  match x with
  | .non => k = false
  | .bl b => k = b
  | .int i => k = (i != 0)
  | .str y => y.length ≤ sizeLine ∧ k = ((y.length : Int) != 0)
  | .byt y => y.size ≤ sizeLine ∧ k = ((y.size : Int) != 0)
  | .ref p => (∃ xs, SqL K H p xs ∧ k = !xs.isEmpty) ∨ (∃ xs, SqT K H p xs ∧ k = !xs.isEmpty) ∨ ∃ kvs, H p = some (.dK kvs) ∧ k = !kvs.isEmpty
  | _ => False
theorem line63 : (sizeLine : Nat) < 2 ^ 63 := by rw [sizeLine_eq]; decide
theorem op_add_str : OpR X (binaryOp .Add) (fun x y H Q => ∃ i j, x = .str i ∧ y = .str j ∧ i.length + j.length ≤ sizeLine ∧ Q (.str (i ++ j)) H) := by
  intro pins s σ H x y v u Q I rx ry h
  obtain ⟨i, j, rfl, rfl, hz, q⟩ := h
  obtain ⟨t, rfl⟩ := rx
  obtain ⟨t', rfl⟩ := ry
  exact add_str (fun t' tk => ⟨.str (i ++ j), H, I.tok _, ⟨_, rfl⟩, q⟩) hz
def PlainIxT (b : Expr) : Prop := ∀ o i, subscripted b false o i = operate [o, i] (getItem o i)
theorem vals1 {x : V} {us : List Value} (r : Vals [x] us) : ∃ u, us = [u] ∧ RelV x u := by
  cases r with
  | cons r1 r2 => cases r2; exact ⟨_, rfl, r1⟩
theorem call_str_int : CallR X (.type "str") (fun xs H Q => ∃ i, xs = [.int i] ∧ i.natAbs.log2 < 1920 ∧ Q (.str (toString i)) H) := by
  intro pins s σ H xs us Q I r h
  obtain ⟨i, rfl, hz, q⟩ := h
  obtain ⟨u, rfl, t, rfl⟩ := vals1 r
  exact PySem.P.str_of_int hz ⟨.str _, H, I.tok _, ⟨_, rfl⟩, q⟩
def LenV (K : PySem.W.Frag) (x : V) (H : Hp) (n : Nat) : Prop :=
  match x with
  | .str y => y.length ≤ sizeLine ∧ n = y.length
  | .byt y => y.size ≤ sizeLine ∧ n = y.size
  | .ref p => (∃ xs, SqL K H p xs ∧ n = xs.length) ∨ ∃ xs, SqT K H p xs ∧ n = xs.length
  | _ => False
end
end L2
namespace L2
open PySem PySem.Spec PyProof.Rows
structure ObjM (h : Heap) (x dx C : Addr) (mA : Str → Option Value) : Prop where
  obj : h.get? x = some (PySem.W.instObj C dx)
  ns : h.Ns1 dx mA
  ne : dx ≠ x
theorem lookIn_ns {h : Heap} {dx : Addr} {mA : Str → Option Value} (n : h.Ns1 dx mA) : ∃ od, h.get? dx = some od ∧ ∀ name, PySem.W.lookIn name od = some (mA name) := by
  obtain ⟨o, es, ep, ho, hd, hk, _, hm⟩ := n
  refine ⟨o, ho, fun name => ?_⟩
  have e := hm name
  unfold nsFind findBy at e
  rw [← Array.find?_toList] at e
  unfold PySem.W.lookIn
  rw [hd]
  dsimp only
  split
  · rename_i y q
    rw [q] at e
    exact congrArg some e
  · rename_i q
    rw [q] at e
    have a : es.toList.any (·.refKey) = false := by
      rw [List.any_eq_false]
      intro y hy
      obtain ⟨z, t, hkey⟩ := hk y (Array.mem_toList_iff.mp hy)
      simp [DictEntry.refKey, hkey]
    have a' : ¬ es.toList.any (·.refKey) = true := by rw [a]; exact Bool.false_ne_true
    rw [if_neg a']
    exact congrArg some e
theorem ObjM.look {h : Heap} {x dx C : Addr} {mA : Str → Option Value} (I : ObjM h x dx C mA) : ∃ od, PySem.W.InstAt h x (PySem.W.instObj C dx) C (some od) ∧ ∀ name, PySem.W.lookIn name od = some (mA name) :=
  let ⟨od, ho, hl⟩ := lookIn_ns I.ns
  ⟨od, ⟨I.obj, rfl, rfl, ho⟩, hl⟩
section
variable {prog : Program} {w : World} {A : Around} {E : Value → Shared → Prop} {s : Shared} {K : PySem.W.Frag} {x dx C f : Addr} {mA : Str → Option Value} {name : Str} {v : Value}
end
def putF (f : Str) (v : V) : List (Str × V) → List (Str × V)
  | [] => [(f, v)]
  | (g, x) :: r => if g = f then (g, v) :: r else (g, x) :: putF f v r
theorem RelO.none_of {o : Option Value} (r : RelO none o) : o = none := by
  cases o with
  | none => rfl
  | some u => exact (show False from r).elim
section
variable {P : Program} {w : World} {H H' : Hp} {h h' : Heap} {a C dx : Addr} {fs fs' : List (Str × V)}
theorem ins_get (hok : HOk P w H h) (e : H a = some (.ins C dx fs)) : ∃ mA, ObjM h a dx C mA ∧ (∀ f, RelO (fs.lookup f) (mA f)) ∧ PySem.Within mA (fs.map (·.1)) ∧ fs.length ≤ 1000 ∧ H dx = some (.own a) := by
  obtain ⟨d, z, ne, ob, mA, n, r, q⟩ := (show ObjOk P w H h a (.ins C dx fs) from hok a _ e)
  exact ⟨mA, ⟨ob, n, ne⟩, r, q, z, d⟩
end
structure Cls (K : PySem.W.Frag) (C : Addr) : Prop where
  pg : PySem.W.plainGet K C Str.empty = true
  hd : PySem.W.hasDictIn K C = true
  po : PySem.W.plainOver K C = true
  sa : PySem.W.findIn K (.ref C) "__setattr__" = some (some (.builtin "object.__setattr__"))
theorem Cls.get {K : PySem.W.Frag} {C : Addr} (c : Cls K C) (f : Str) : PySem.W.plainGet K C f = true := c.pg
def NoAttr (K : PySem.W.Frag) (C : Addr) (f : Str) : Prop := PySem.W.findIn K (.ref C) f = some none
structure Con (K : PySem.W.Frag) (C : Addr) (f : Str) (v : V) (u : Value) : Prop where
  at_ : PySem.W.findIn K (.ref C) f = some (some u)
  rel : RelV v u
  get : PySem.W.specialIn K u "__get__" = some none
  cp : PySem.W.copiedNames.contains f = false
structure Meth (K : PySem.W.Frag) (C : Addr) (m : Str) (f : Addr) : Prop where
  at_ : PySem.W.findIn K (.ref C) m = some (some (.ref f))
  fn : PySem.W.isFn K (.ref f) = true
  kp : PySem.W.keepIn K (.ref f) = true
section
variable {X : Cx} {pins : List (Addr × Obj)} {σ : St} {H : Hp} {s : Shared} {a C dx : Addr} {fs : List (Str × V)} {f : Str} {v : V} {A : Around} {E : Value → Shared → Prop}
theorem Inv.made (I : Inv X pins σ H s) : Inv X pins σ (upd (upd H s.heap.objs.size (.own (s.heap.objs.size + 1))) (s.heap.objs.size + 1) (.ins C s.heap.objs.size []))
    { s with heap := (s.heap.push PySem.W.emptyDict).push (PySem.W.instObj C s.heap.objs.size) } := by
  have e1 : (s.heap.push PySem.W.emptyDict).get? s.heap.objs.size = some PySem.W.emptyDict := Heap.get?_push_size s.heap rfl
  have e2 : ((s.heap.push PySem.W.emptyDict).push (PySem.W.instObj C s.heap.objs.size)).get? (s.heap.objs.size + 1) = some (PySem.W.instObj C s.heap.objs.size) := by
    have := Heap.get?_push_size (s.heap.push PySem.W.emptyDict) (o := PySem.W.instObj C s.heap.objs.size) rfl
    rwa [Heap.size_push] at this
  have e3 : (s.heap.push PySem.W.emptyDict).Ns s.heap.objs.size (fun _ => none) := ⟨PySem.W.emptyDict, #[], _, e1, rfl, (fun e he => absurd he (by simp)), fun _ => rfl⟩
  have I1 := I.laid (a := s.heap.objs.size) (o := .own (s.heap.objs.size + 1)) (h' := s.heap.push PySem.W.emptyDict) (t' := s.toks) (fun b u q => Heap.get?_push_of_some _ q) (Nat.le_refl _) ⟨_, e1⟩
  refine I1.laid (a := s.heap.objs.size + 1) (o := .ins C s.heap.objs.size []) (t' := s.toks) (fun b u q => Heap.get?_push_of_some _ q) (Nat.le_of_eq (Heap.size_push _ _)) ?_
  have ne : s.heap.objs.size ≠ s.heap.objs.size + 1 := Nat.ne_of_lt (Nat.lt_succ_self _)
  refine ⟨by rw [upd_ne ne, upd_same], Nat.zero_le _, ne, e2, fun _ => none, (Heap.Ns1.of_empty e3).at fun o q => Heap.get?_push_of_some _ q, fun _ => True.intro, fun y hy => absurd rfl hy⟩
end
def tFld (K : PySem.W.Frag) (ta : TE) (f : Str) : TE := fun σ H Q => ta σ H fun x H1 => ∃ a C dx fs v, x = .ref a ∧ H1 a = some (.ins C dx fs) ∧ Cls K C ∧ NoAttr K C f ∧ fs.lookup f = some v ∧ Q v H1
def tCon (K : PySem.W.Frag) (ta : TE) (f : Str) : TE := fun σ H Q => ta σ H fun x H1 => ∃ a C dx fs v u, x = .ref a ∧ H1 a = some (.ins C dx fs) ∧ Cls K C ∧ Con K C f v u ∧ fs.lookup f = none ∧ Q v H1
def sFld (K : PySem.W.Frag) (ta tv : TE) (f : Str) : TS := fun D σ H => tv σ H fun y H1 => ta σ H1 fun x H2 => ∃ a C dx fs, x = .ref a ∧ H2 a = some (.ins C dx fs) ∧ Cls K C ∧ NoAttr K C f ∧ fs.length < 1000 ∧
  D.nx σ (upd H2 a (.ins C dx (putF f y fs)))
def InOp (X : Cx) (op : Operator) (rd : V → V → Hp → VK → Prop) : Prop :=
  ∀ (pins : List (Addr × Obj)) (s : Shared) (σ : St) (H : Hp) (x y : V) (u v : Value) (Q : VK), Inv X pins σ H s → RelV x u → RelV y v → rd x y H Q → wpAny (model X.prog X.w) X.A (inplaceOp op u v) (EP X pins σ Q) X.xe s
def sFldAug (K : PySem.W.Frag) (ta tv : TE) (rd : V → V → Hp → VK → Prop) (f : Str) : TS := fun D σ H => ta σ H fun x H1 => ∃ a C dx fs v, x = .ref a ∧ H1 a = some (.ins C dx fs) ∧ Cls K C ∧ NoAttr K C f ∧ fs.lookup f = some v ∧
  tv σ H1 fun y H2 => rd v y H2 fun z H3 => ∃ dx' fs', H3 a = some (.ins C dx' fs') ∧ fs'.length < 1000 ∧ D.nx σ (upd H3 a (.ins C dx' (putF f z fs')))
section
variable {X : Cx} {o e value : Expr} {f : Str} {pos pos' tpos : Pos} {ta tv : TE}
def rAdd : V → V → Hp → VK → Prop := fun x y H Q => ∃ i j, x = .int i ∧ y = .int j ∧ Q (.int (i + j)) H
def rSub : V → V → Hp → VK → Prop := fun x y H Q => ∃ i j, x = .int i ∧ y = .int j ∧ Q (.int (i - j)) H
end
section
variable {X : Cx} {pins : List (Addr × Obj)} {σ : St} {H : Hp} {s : Shared} {A : Around} {E : Value → Shared → Prop} {Q : Value → Shared → Prop} {c : Value} {b : Bool}
inductive TyOf (K : PySem.W.Frag) (H : Hp) : V → Value → Prop where
  | non : TyOf K H .non (.type "NoneType")
  | bl (x : Bool) : TyOf K H (.bl x) (.type "bool")
  | int (i : Int) : TyOf K H (.int i) (.type "int")
  | str (x : Str) : TyOf K H (.str x) (.type "str")
  | flt (x : UInt64) : TyOf K H (.flt x) (.type "float")
  | lst {a : Addr} {xs : List V} (e : H a = some (.lst xs)) : TyOf K H (.ref a) (.type "list")
  | frz {a : Addr} {o : Obj} {xs : List V} (e : H a = some (.frz o (.lst xs))) : TyOf K H (.ref a) (.type "list")
  | tup {a : Addr} {xs : List V} (e : H a = some (.tup xs)) : TyOf K H (.ref a) (.type "tuple")
  | dK {a : Addr} {kvs : List (Key × V)} (e : H a = some (.dK kvs)) : TyOf K H (.ref a) (.type "dict")
  | dT {a : Addr} {kvs : List (List Key × V)} (e : H a = some (.dT kvs)) : TyOf K H (.ref a) (.type "dict")
  | ins {a C dx : Addr} {fs : List (Str × V)} (e : H a = some (.ins C dx fs)) (cl : Cls K C) (ha : PySem.W.findIn K (.ref C) "__class__" = some (some (.builtin "object.__class__")))
      (hn : PySem.W.specialIn K (.builtin "object.__class__") "__get__" = some (some (.builtin "getset_descriptor.__get__"))) (htk : PySem.W.takesIn K (.builtin "object.__class__") = some true)
      (hm : PySem.W.mroIn K C (.type "object") = some true) : TyOf K H (.ref a) (.ref C)
theorem isinst_ok {x : V} {u t : Value} (I : Inv X pins σ H s) (rx : RelV x u) (ty : TyOf X.K H x t) (e : PySem.W.kitOne X.K t c = some b) (h : ∀ tk, Q (.bool b) { s with toks := tk }) :
    wpAny (model X.prog X.w) A (call (.builtin "isinstance") [u, c]) Q E s := by
  cases ty with
  | non => cases (show u = Value.none from rx); exact PySem.W.kia_one PySem.W.kitx_none I.kIn True.intro e (fun z => nomatch z) h
  | bl y => cases (show u = Value.bool y from rx); exact PySem.W.kia_one PySem.W.kitx_bool I.kIn True.intro e (fun z => nomatch z) h
  | int i => obtain ⟨t, q⟩ := (show ∃ t, u = Value.int i t from rx); cases q; exact PySem.W.kia_one PySem.W.kitx_int I.kIn True.intro e (fun z => nomatch z) h
  | str y => obtain ⟨t, q⟩ := (show ∃ t, u = Value.str y t from rx); cases q; exact PySem.W.kia_one PySem.W.kitx_str I.kIn True.intro e (fun z => nomatch z) h
  | flt y => obtain ⟨t, q⟩ := (show ∃ t, u = Value.float y t from rx); cases q; exact PySem.W.kia_one PySem.W.kitx_float I.kIn True.intro e (fun z => nomatch z) h
  | @lst a xs ea =>
    cases (show u = Value.ref a from rx)
    obtain ⟨_, _, n, _, h1⟩ := (show ObjOk X.prog X.w H s.heap a (.lst xs) from I.hok a _ ea)
    exact PySem.W.kia_one PySem.W.kitx_list I.kIn ⟨_, h1, rfl⟩ e (fun z => nomatch z) h
  | @frz a ob xs ea =>
    cases (show u = Value.ref a from rx)
    obtain ⟨_, _, _, n, _, h1⟩ := (show ObjOk X.prog X.w H s.heap a (.frz ob (.lst xs)) from I.hok a _ ea)
    exact PySem.W.kia_one PySem.W.kitx_list I.kIn ⟨_, h1, rfl⟩ e (fun z => nomatch z) h
  | @tup a xs ea =>
    cases (show u = Value.ref a from rx)
    obtain ⟨_, _, _, p⟩ := (show ObjOk X.prog X.w H s.heap a (.tup xs) from I.hok a _ ea)
    obtain ⟨o, h1, h2, _⟩ := p
    exact PySem.W.kia_one PySem.W.kitx_tuple I.kIn ⟨o, h1, h2⟩ e (fun z => nomatch z) h
  | @dK a kvs ea =>
    cases (show u = Value.ref a from rx)
    obtain ⟨_, _, vs, _, p⟩ := (show ObjOk X.prog X.w H s.heap a (.dK kvs) from I.hok a _ ea)
    obtain ⟨o, es, ep, h1, h2, _⟩ := p
    exact PySem.W.kia_one PySem.W.kitx_dict I.kIn ⟨o, h1, h2.1⟩ e (fun z => nomatch z) h
  | @dT a kvs ea =>
    cases (show u = Value.ref a from rx)
    obtain ⟨_, _, xs, _, o, es, ep, h1, h2, _⟩ := (show ObjOk X.prog X.w H s.heap a (.dT kvs) from I.hok a _ ea)
    exact PySem.W.kia_one PySem.W.kitx_dict I.kIn ⟨o, h1, h2.1⟩ e (fun z => nomatch z) h
  | @ins a C dx fs ea cl ha hn htk hm =>
    cases (show u = Value.ref a from rx)
    obtain ⟨mA, O, _⟩ := ins_get I.hok ea
    obtain ⟨od, J, _⟩ := O.look
    exact PySem.W.kia_one (PySem.W.kitx_own (cl.get _) cl.hd ha hn htk hm) I.kIn J e (fun z => nomatch z) h
end
end L2
namespace L2
open PySem PySem.Spec PyProof.Rows
structure Room (k : Nat) (A : Around) : Prop where
  hd : A.handled = none
  dp : A.depth + 3 * k + 5 < recursionLimit
  un : A.units + 16 * k + 200 < cLine
theorem Room.mono {j k : Nat} {A : Around} (r : Room k A) (h : j ≤ k) : Room j A := ⟨r.hd, by have := r.dp; omega, by have := r.un; omega⟩
theorem Room.deeper {k : Nat} {A : Around} (r : Room (k + 1) A) (env : Env) : Room k (A.deeper env) :=
  ⟨r.hd, by have := r.dp; show A.depth + 1 + 3 * k + 5 < _; omega, by have := r.un; show A.units + 3 + 16 * k + 200 < _; omega⟩
theorem Room.in1 {k : Nat} {A : Around} (r : Room (k + 1) A) : Room k A.in1 :=
  ⟨r.hd, by have := r.dp; show A.depth + 3 * k + 5 < _; omega, by have := r.un; show A.units + 1 + 16 * k + 200 < _; omega⟩
theorem make_depth {A : Around} {C : Addr} {us : List Value} {kw : List (Str × Value)} : (A.under (.builtin "type.__call__" ⟨.ref C :: us, kw⟩)).depth = A.depth + 1 := by
  first | rfl | simp [Around.under, Code.weight, Code.isCreation, Code.isGuard, Code.isCaller, Code.frames, Code.isFrame, guardIds]
theorem make_units {A : Around} {C : Addr} {us : List Value} {kw : List (Str × Value)} : (A.under (.builtin "type.__call__" ⟨.ref C :: us, kw⟩)).units = A.units + 1 := by
  first | rfl | simp [Around.under, Code.cUnits, Code.frames, Code.isFrame]
theorem Room.make {k : Nat} {A : Around} (r : Room (k + 1) A) (C : Addr) (us : List Value) (kw : List (Str × Value)) : Room k (A.under (.builtin "type.__call__" ⟨.ref C :: us, kw⟩)) :=
  ⟨r.hd, by have := r.dp; rw [make_depth]; omega, by have := r.un; rw [make_units]; omega⟩
theorem Room.depth {k : Nat} {A : Around} (r : Room k A) : A.depth < recursionLimit := by have := r.dp; omega
theorem Room.units {k : Nat} {A : Around} (r : Room k A) : A.units + 64 < cLine := by have := r.un; omega
def tNil : TA := fun _ H Q => Q [] H
def tCons (ta : TE) (tr : TA) : TA := fun σ H Q => ta σ H fun x H1 => tr σ H1 fun xs H2 => Q (x :: xs) H2
section
variable {X : Cx} {e : Expr} {es : List Expr} {te : TE} {t : TA} {pos : Pos}
theorem pa_nil : PA X [] tNil := fun _ _ _ _ H Q I h => Calls.spliced_nil ⟨[], H, I, .nil, h⟩
theorem pa_cons (ha : PE X e te) (hr : PA X es t) (hs : starEach (e :: es) X.env = (false, eval e X.env) :: starEach es X.env := by rfl) : PA X (e :: es) (tCons te t) := by
  intro pos pins s σ H Q I h
  rw [hs]
  show wpAny _ _ (spliced ((false, eval e X.env) :: backTo pos (starEach es X.env))) _ _ s
  refine Calls.spliced_cons (thn (ha pins s σ H _ I h) fun u s1 ⟨x, H1, I1, r1, q1⟩ => ?_)
  exact thn (hr pos pins s1 σ H1 _ I1 q1) fun us s2 ⟨xs, H2, I2, r2, q2⟩ => ⟨x :: xs, H2, I2, .cons r1 r2, q2⟩
def tTup (t : TA) : TE := fun σ H Q => t σ H fun xs H1 => xs.length ≤ sizeLine ∧ ∀ p, H1 p = none → Q (.ref p) (upd H1 p (.tup xs))
def tLst (t : TA) : TE := fun σ H Q => t σ H fun xs H1 => xs.length ≤ sizeLine ∧ ∀ p, H1 p = none → Q (.ref p) (upd H1 p (.lst xs))
theorem pe_tup {x1} (h : PA X es t) : PE X (.Tuple es x1 pos) (tTup t) := by
  intro pins s σ H Q I hq
  refine wpAny_Tuple_spliced (thn (h pos pins s σ H _ I hq) fun us s1 ⟨xs, H1, I1, r, z, q⟩ => ⟨by rw [← r.length]; exact z, ?_⟩)
  have hf : H1 s1.heap.objs.size = none := I1.hok.fresh (Nat.le_refl _)
  refine ⟨.ref s1.heap.objs.size, upd H1 s1.heap.objs.size (.tup xs), I1.laid (t' := s1.toks) (fun b u e => Heap.get?_push_of_some _ e) (Nat.le_refl _) ?_, rfl, q _ hf⟩
  exact ⟨z, us, r, ⟨_, Heap.get?_push_size _ rfl, rfl, _, rfl⟩⟩
theorem pe_lst (h : PA X es t) : PE X (.List es pos) (tLst t) := by
  intro pins s σ H Q I hq
  refine wpAny_List_spliced (thn (h pos pins s σ H _ I hq) fun us s1 ⟨xs, H1, I1, r, z, q⟩ => ⟨by rw [← r.length]; exact z, ?_⟩)
  have hf : H1 s1.heap.objs.size = none := I1.hok.fresh (Nat.le_refl _)
  refine ⟨.ref s1.heap.objs.size, upd H1 s1.heap.objs.size (.lst xs), I1.laid (t' := s1.toks) (fun b u e => Heap.get?_push_of_some _ e) (Nat.le_refl _) ?_, rfl, q _ hf⟩
  exact ⟨z, us, 0, r, Heap.get?_push_size _ rfl⟩
end
abbrev Sp := List V → Hp → VK → XK → Prop
abbrev CXT := List Env → Hp → Shared → XK → Value → Shared → Prop
structure Env0 (P : Program) (w : World) (K : PySem.W.Frag) (mg : Str → Option Value) (base : Heap) (A : Around) (outer : List Env) (s : Shared) (H : Hp) : Prop where
  frames : A.frames = some outer
  mod : Mod K mg base
  bs : ∀ b o, base.get? b = some o → s.heap.get? b = some o ∧ H b = none
  bsz : base.objs.size ≤ s.heap.objs.size
  funs : s.heap.FunFrames base outer
  frf : ∀ b ∈ frs outer, H b = none
  hok : HOk P w H s.heap
  bare : AllBare s.gens
def CE (outer : List Env) (P : Program) (w : World) (H : Hp) (s : Shared) (Q : VK) (u : Value) (s' : Shared) : Prop :=
  ∃ v H', s'.os = s.os ∧ AllBare s'.gens ∧ Un (frs outer) [] H H' s.heap s'.heap ∧ HOk P w H' s'.heap ∧ RelV v u ∧ Q v H'
def CR (CX : CXT) (outer : List Env) (P : Program) (w : World) (H : Hp) (s : Shared) (Q : VK) (E : XK) (r : Result) (s' : Shared) : Prop :=
  match r with
  | .ok (.ret u) => CE outer P w H s Q u s'
  | .ok _ => False
  | .error e => CX outer H s E e s'
structure FnOk (P : Program) (w : World) (K : PySem.W.Frag) (mg : Str → Option Value) (base : Heap) (CX : CXT) (k : Nat) (f : Addr) (fd : FuncData) (ps : List Str) (sp : Sp) : Prop where
  len : ∀ vs H Q E, sp vs H Q E → vs.length = ps.length
  run : ∀ (A : Around) (outer : List Env) (s : Shared) (H : Hp) (args : Args) (us : List Value) (vs : List V) (Q : VK) (E : XK), Room k A → Env0 P w K mg base A outer s H → BindsTo s fd args (ps.zip us) → Vals vs us → sp vs H Q E →
    codeAny (model P w) A (.call (.ref f) args) (CR CX outer P w H s Q E) s
theorem FnOk.mono {P : Program} {w : World} {K : PySem.W.Frag} {mg : Str → Option Value} {base : Heap} {CX : CXT} {j k : Nat} {f : Addr} {fd : FuncData} {ps : List Str} {sp : Sp} (F : FnOk P w K mg base CX j f fd ps sp) (h : j ≤ k) :
    FnOk P w K mg base CX k f fd ps sp := ⟨F.len, fun A outer s H args us vs Q E hr => F.run A outer s H args us vs Q E (hr.mono h)⟩
theorem FnOk.imp {P : Program} {w : World} {K : PySem.W.Frag} {mg : Str → Option Value} {base : Heap} {CX : CXT} {k : Nat} {f : Addr} {fd : FuncData} {ps : List Str} {sp sp' : Sp} (F : FnOk P w K mg base CX k f fd ps sp)
    (h : ∀ vs H Q E, sp' vs H Q E → sp vs H Q E) : FnOk P w K mg base CX k f fd ps sp' :=
  ⟨fun vs H Q E q => F.len vs H Q E (h _ _ _ _ q), fun A outer s H args us vs Q E hr he hb hv hs => F.run A outer s H args us vs Q E hr he hb hv (h _ _ _ _ hs)⟩
theorem Env0.make {P : Program} {w : World} {K : PySem.W.Frag} {mg : Str → Option Value} {base : Heap} {A : Around} {outer : List Env} {s : Shared} {H : Hp} (e : Env0 P w K mg base A outer s H) (C : Addr) (us : List Value) (kw : List (Str × Value)) :
    Env0 P w K mg base (A.under (.builtin "type.__call__" ⟨.ref C :: us, kw⟩)) outer s H := ⟨by first | exact e.frames | (simpa [Around.under, Code.envs, Code.isFrame, pushEnvs] using e.frames), e.mod, e.bs, e.bsz, e.funs, e.frf, e.hok, e.bare⟩
theorem Env0.in1 {P : Program} {w : World} {K : PySem.W.Frag} {mg : Str → Option Value} {base : Heap} {A : Around} {outer : List Env} {s : Shared} {H : Hp} (e : Env0 P w K mg base A outer s H) :
    Env0 P w K mg base A.in1 outer s H := ⟨e.frames, e.mod, e.bs, e.bsz, e.funs, e.frf, e.hok, e.bare⟩
section
variable {X : Cx} {pins : List (Addr × Obj)} {σ : St} {H : Hp} {s s' : Shared}
theorem Inv.env0 (I : Inv X pins σ H s) : Env0 X.prog X.w X.K X.mg X.base X.A X.stack s H :=
  ⟨I.ok.frames, I.ok.mod, I.bs, Nat.le_trans I.ok.bsz I.sz, I.stack, I.stkFree, I.hok, I.bare⟩
theorem Inv.after {Q : VK} {u : Value} (I : Inv X pins σ H s) (h : CE X.stack X.prog X.w H s Q u s') : EP X pins σ Q u s' := by
  obtain ⟨v, H', os, bare, un, hok, r, q⟩ := h
  obtain ⟨hh, g, d, t, os'⟩ := s'
  obtain rfl : os' = s.os := os
  exact ⟨v, H', I.call (h' := hh) (g' := g) (d' := d) (t' := t) (ch := []) un hok bare (fun b z => absurd z (by simp)), r, q⟩
end
def tCall (sp : Sp) (dvs : List V) (E : XK) (t : TA) : TE := fun σ H Q => t σ H fun vs H1 => sp (vs ++ dvs) H1 Q E
def tMeth (C : Addr) (m : Str) (sp : Sp) (dvs : List V) (E : XK) (ta : TE) (t : TA) : TE := fun σ H Q => ta σ H fun x H1 => ∃ a dx fs, x = .ref a ∧ H1 a = some (.ins C dx fs) ∧ fs.lookup m = none ∧
  t σ H1 fun vs H2 => sp (x :: (vs ++ dvs)) H2 Q E
def tMake (C : Addr) (sp : Sp) (dvs : List V) (E : XK) (t : TA) : TE := fun σ H Q => t σ H fun vs H1 => ∀ x dx, H1 x = none → H1 dx = none → dx ≠ x →
  sp (.ref x :: (vs ++ dvs)) (upd (upd H1 dx (.own x)) x (.ins C dx [])) (fun v H2 => v = .non ∧ Q (.ref x) H2) E
def Binds (K : PySem.W.Frag) (fd : FuncData) (ps : List Str) (ds : List Value) : Prop :=
  ∀ (s : Shared) (us : List Value), K.In s.heap → (us ++ ds).length = ps.length → BindsTo s fd ⟨us, []⟩ (ps.zip (us ++ ds))
theorem Binds.all {K : PySem.W.Frag} {fd : FuncData} {ps : List Str} (h : ∀ us : List Value, us.length = ps.length → bindArgs fd ⟨us, []⟩ = pure (ps.zip us)) : Binds K fd ps [] := fun s us _ hl => by
  rw [List.append_nil] at hl ⊢
  exact .of_eq (h us hl)
def Passes (CX : CXT) (X : Cx) (E : XK) : Prop := ∀ (pins : List (Addr × Obj)) (σ : St) (H : Hp) (s : Shared) (e : Value) (s' : Shared), Inv X pins σ H s → CX X.stack H s E e s' → X.xe e s'
section
variable {X : Cx} {CX : CXT} {k : Nat} {f C : Addr} {fd : FuncData} {ps : List Str} {sp : Sp} {dvs : List V} {ds : List Value} {E : XK} {x m : Str} {p pos apos : Pos} {e o : Expr} {es : List Expr} {ta : TE} {t : TA}
theorem run_fn {pins : List (Addr × Obj)} {σ : St} {H : Hp} {s : Shared} {Q : VK} {us : List Value} {vs : List V} (F : FnOk X.prog X.w X.K X.mg X.base CX k f fd ps sp) (hr : Room k X.A) (hb : Binds X.K fd ps ds) (hd : Vals dvs ds) (hx : Passes CX X E)
    (I : Inv X pins σ H s) (r : Vals vs us) (h : sp (vs ++ dvs) H Q E) : wpAny (model X.prog X.w) X.A (call (.ref f) us) (EP X pins σ Q) X.xe s := by
  have r2 : Vals (vs ++ dvs) (us ++ ds) := r.append hd
  have hl : (us ++ ds).length = ps.length := by rw [← r2.length]; exact F.len _ _ _ _ h
  refine wpAny_call (codeAny_mono (F.run X.A X.stack s H ⟨us, []⟩ (us ++ ds) (vs ++ dvs) Q E hr I.env0 (hb s us I.kIn hl) r2 h) fun r s' hq => ?_)
  cases r with
  | error e => exact hx pins σ H s e s' I hq
  | ok fl =>
    cases fl with
    | ret u => exact I.after hq
    | next => exact False.elim hq
    | brk => exact False.elim hq
    | cont => exact False.elim hq
theorem pe_call (F : FnOk X.prog X.w X.K X.mg X.base CX k f fd ps sp) (hr : Room k X.A) (hg : Gl X x) (hm : X.mg x = some (.ref f)) (hk : PySem.W.keepIn X.K (.ref f) = true) (hb : Binds X.K fd ps ds) (hd : Vals dvs ds) (hx : Passes CX X E)
    (ha : PA X (e :: es) t) (hdb : (x == ("__debug__" : Str)) = false := by decide) (he : starEach (e :: es) X.env = (false, eval e X.env) :: starEach es X.env := by rfl) (hpl : (backTo pos (starEach es X.env)).any (·.1) = false := by rfl) :
    PE X (.Call (.Name x p) (e :: es) [] pos) (tCall sp dvs E t) := by
  intro pins s σ H Q I h
  refine wpAny_Call_Name_kw (ld_glob I hg hm ?_ hdb)
  refine PySem.W.callWith_K (h₀ := X.base) I.ok.mod.kin hk (thn (ha pos pins s σ H _ I h) fun us s1 ⟨vs, H1, I1, r, q⟩ => ⟨I1.kIn, ?_⟩) he hpl
  exact run_fn F hr hb hd hx I1 r q
structure Mk (K : PySem.W.Frag) (C f : Addr) : Prop where
  makes : PySem.W.makesIn K C = true
  init : PySem.W.findIn K (.ref C) "__init__" = some (some (.ref f))
  fn : PySem.W.isFn K (.ref f) = true
  kp : PySem.W.keepIn K (.ref C) = true
end
def PK (X : Cx) (kws : List Keyword) (t : TA) : Prop :=
  ∀ (pos : Pos) (pins : List (Addr × Obj)) (s : Shared) (σ : St) (H : Hp) (Q : List V → Hp → Prop), Inv X pins σ H s → t σ H Q → wpAny (model X.prog X.w) X.A (evalAll ((backToKw pos (keywordEach kws X.env)).map (·.2))) (AP X pins σ Q) X.xe s
section
variable {X : Cx} {CX : CXT} {k : Nat} {f C : Addr} {fd : FuncData} {ps ks : List Str} {sp : Sp} {E : XK} {x m : Str} {p pos apos kpos : Pos} {e o : Expr} {es : List Expr} {kws : List Keyword} {te ta : TE} {t tk : TA} {nm : Option Str}
structure KBinds (K : PySem.W.Frag) (fd : FuncData) (ps ks : List Str) (g : List Value → List Value → List Value) (gV : List V → List V → List V) : Prop where
  to : ∀ (s : Shared) (us ws : List Value), K.In s.heap → (g us ws).length = ps.length → BindsTo s fd ⟨us, ks.zip ws⟩ (ps.zip (g us ws))
  rel : ∀ {vs : List V} {us : List Value} {zs : List V} {ws : List Value}, Vals vs us → Vals zs ws → Vals (gV vs zs) (g us ws)
def tCallK (sp : Sp) (gV : List V → List V → List V) (E : XK) (t tk : TA) : TE := fun σ H Q => t σ H fun vs H1 => tk σ H1 fun zs H2 => sp (gV vs zs) H2 Q E
variable {g : List Value → List Value → List Value} {gV : List V → List V → List V}
end
structure FnScope (N P : List Str) (sc : Scope) : Prop where
  kind : sc.kind = .function
  co : sc.isCoroutine = false
  gen : sc.isGenerator = false
  nd : N.Nodup
  pre : N.take P.length = P
  par : ∀ x ∈ P, sc.names.lookup x = some .local ∨ sc.names.lookup x = some .cell
  nofree : ∀ y ∈ sc.names, y.2 ≠ .free
theorem bindL_out {kindOf : Str → Option NameKind} {x : Str} : ∀ {binds : List (Str × Value)} {m : Str → Option Value}, (∀ v, (x, v) ∉ binds) → bindL kindOf binds m x = m x
  | [], _, _ => rfl
  | (n, v) :: r, m, h => by
    unfold bindL
    rw [bindL_out fun w hw => h w (List.mem_cons_of_mem _ hw)]
    split
    · have : x ≠ n := by rintro rfl; exact h v List.mem_cons_self
      simp [this]
    · rfl
theorem bindC_out {kindOf : Str → Option NameKind} {x : Str} : ∀ {binds : List (Str × Value)} {m : Str → Option Value}, (∀ v, (x, v) ∉ binds) → bindC kindOf binds m x = m x
  | [], _, _ => rfl
  | (n, v) :: r, m, h => by
    unfold bindC
    rw [bindC_out fun w hw => h w (List.mem_cons_of_mem _ hw)]
    split
    · rfl
    · have : x ≠ n := by rintro rfl; exact h v List.mem_cons_self
      simp [this]
theorem bindL_get {kindOf : Str → Option NameKind} {x : Str} {v : Value} : ∀ {P : List Str} {vs : List Value} {i : Nat} {m : Str → Option Value}, P.Nodup → P[i]? = some x → vs[i]? = some v → kindOf x = some .local →
    bindL kindOf (P.zip vs) m x = some v
  | [], _, _, _, _, h, _, _ => by simp at h
  | _ :: _, [], _, _, _, _, h, _ => by simp at h
  | p :: P, w :: vs, 0, m, nd, h1, h2, hk => by
    simp at h1 h2; subst h1; subst h2
    show bindL kindOf ((p, w) :: P.zip vs) m p = _
    unfold bindL
    rw [bindL_out fun v hv => (List.nodup_cons.mp nd).1 (List.of_mem_zip hv).1, if_pos hk]
    simp
  | p :: P, w :: vs, i + 1, m, nd, h1, h2, hk => by
    show bindL kindOf ((p, w) :: P.zip vs) m x = _
    unfold bindL
    exact bindL_get (i := i) (List.nodup_cons.mp nd).2 (by simpa using h1) (by simpa using h2) hk
theorem bindC_get {kindOf : Str → Option NameKind} {x : Str} {v : Value} : ∀ {P : List Str} {vs : List Value} {i : Nat} {m : Str → Option Value}, P.Nodup → P[i]? = some x → vs[i]? = some v → kindOf x ≠ some .local →
    bindC kindOf (P.zip vs) m x = some v
  | [], _, _, _, _, h, _, _ => by simp at h
  | _ :: _, [], _, _, _, _, h, _ => by simp at h
  | p :: P, w :: vs, 0, m, nd, h1, h2, hk => by
    simp at h1 h2; subst h1; subst h2
    show bindC kindOf ((p, w) :: P.zip vs) m p = _
    unfold bindC
    rw [bindC_out fun v hv => (List.nodup_cons.mp nd).1 (List.of_mem_zip hv).1, if_neg hk]
    simp
  | p :: P, w :: vs, i + 1, m, nd, h1, h2, hk => by
    show bindC kindOf ((p, w) :: P.zip vs) m x = _
    unfold bindC
    exact bindC_get (i := i) (List.nodup_cons.mp nd).2 (by simpa using h1) (by simpa using h2) hk
def start (N : List Str) (vs : List V) : St := vs.map some ++ List.replicate (N.length - vs.length) none
def cxOf (CX : CXT) (P : Program) (w : World) (K : PySem.W.Frag) (mg : Str → Option Value) (base : Heap) (N : List Str) (qual : Str) (scope : Scope) (f : Addr) (cd : Value) (A : Around) (outer : List Env) (s : Shared) (H : Hp) (E : XK) : Cx where
  prog := P
  w := w
  K := K
  mg := mg
  base := base
  A := A.deeper (envOfC qual scope s.heap.objs.size f cd)
  N := N
  s₀ := s
  H₀ := H
  env := envOfC qual scope s.heap.objs.size f cd
  outer := outer
  stack := envOfC qual scope s.heap.objs.size f cd :: outer
  ex := []
  calm := true
  fn := fun _ => true
  pn := []
  xe := fun e s' => wpAny (model P w) (A.deeper (envOfC qual scope s.heap.objs.size f cd)) (leaving (envOfC qual scope s.heap.objs.size f cd) e) (fun _ s'' => CX outer H s E e s'') (fun e' s'' => CX outer H s E e' s'') s'
theorem cell_has {sc : Scope} {n : Nat} {x : Str} (h : sc.names.lookup x = some .cell) : ∃ c, (cellsFrom n sc.names []).lookup x = some c := by
  have q := PySem.W.cellsFrom_some sc.names n [] (.inl h)
  exact Option.isSome_iff_exists.mp q
theorem inv_start {CX : CXT} {P : Program} {w : World} {K : PySem.W.Frag} {mg : Str → Option Value} {base : Heap} {N ps : List Str} {qual : Str} {scope : Scope} {f : Addr} {cd : Value} {A : Around} {outer : List Env} {s s1 : Shared} {H : Hp} {E : XK} {us : List Value} {vs : List V}
    (S : FnScope N ps scope) (hd : A.handled = none) (e0 : Env0 P w K mg base A outer s H) (hl : vs.length = ps.length) (r : Vals vs us)
    (x : InCallC s s.heap.objs.size (bindL (envOfC qual scope s.heap.objs.size f cd).kindOf (ps.zip us) fun _ => none) (cellsFrom (s.heap.objs.size + 1) scope.names []) (bindC (envOfC qual scope s.heap.objs.size f cd).kindOf (ps.zip us) fun _ => none) s1) :
    Inv (cxOf CX P w K mg base N qual scope f cd A outer s H E) [] (start N vs) H s1 := by
  have hpl : ps.length ≤ N.length := by have := congrArg List.length S.pre; rw [List.length_take] at this; omega
  obtain ⟨h1, tk, rfl, hk⟩ := x.done
  have noA : ∀ b : Addr, b ∉ (cxOf CX P w K mg base N qual scope f cd A outer s H E).ex := fun b z => absurd (show b ∈ ([] : List Addr) from z) (by simp)
  refine ⟨⟨e0.mod, S.kind, rfl, rfl, Nat.le_refl _, fun y z c h1 h2 => ?_, fun y hy => ?_, fun y c _ h => ?_, fun _ => hd, Around.frames_deeper e0.frames, .inr ⟨rfl, rfl⟩, fun b z => absurd z (noA b), e0.bs, e0.bsz, fun b _ _ => noA b, fun b z => absurd z (noA b), e0.funs, e0.frf⟩,
    rfl, e0.bare, Un.kept hk, ⟨_, x.toInCall.ns, fun i y v h1 h2 h3 => ?_⟩, fun y c h => ⟨_, x.cell y c h⟩, e0.hok.fresh (Nat.le_refl _), fun y c h => ?_, fun p hp => absurd (show p ∈ ([] : List (Addr × Obj)) from hp) (by simp), e0.hok.kept hk, ?_⟩
  · exact name_of_addr x.apart (PySem.mem_of_lookup h1) (PySem.mem_of_lookup h2)
  · have hy : scope.names.lookup y = some .cell ∨ scope.names.lookup y = some .free := hy
    rcases hy with hy | hy
    · exact cell_has hy
    · exact absurd rfl (S.nofree _ (PySem.mem_of_lookup hy))
  · exact Nat.le_of_lt (x.above y c (PySem.mem_of_lookup h))
  · have hi : i < vs.length := by
      unfold start at h2
      by_cases hi : i < vs.length
      · exact hi
      · rw [List.getElem?_append_right (by simpa using hi)] at h2
        rw [List.getElem?_replicate] at h2
        split at h2 <;> cases h2
    have ha : vs[i]? = some v := by
      unfold start at h2
      rw [List.getElem?_append_left (by simpa using hi), List.getElem?_map] at h2
      cases e : vs[i]? with
      | none => rw [e] at h2; cases h2
      | some a => rw [e] at h2; cases h2; rfl
    obtain ⟨u, hu, rv⟩ := r.get ha
    have hp : ps[i]? = some y := by
      rw [← S.pre, List.getElem?_take_of_lt (by omega)]; exact h1
    have ndP : ps.Nodup := by rw [← S.pre]; exact S.nd.sublist (List.take_sublist _ _)
    refine ⟨u, rv, ?_⟩
    rcases S.par y (List.mem_of_getElem? hp) with k | k
    · exact .inl ⟨k, bindL_get ndP hp hu k⟩
    · obtain ⟨c, e⟩ := cell_has (n := s.heap.objs.size + 1) k
      refine .inr ⟨.inl k, c, e, ?_⟩
      have q := x.cell y c e
      rw [bindC_get ndP hp hu (by show scope.names.lookup y ≠ _; rw [k]; decide)] at q
      exact q
  · exact e0.hok.fresh (Nat.le_of_lt (x.above y c (PySem.mem_of_lookup h)))
  · unfold start
    show _ = N.length
    rw [List.length_append, List.length_map, List.length_replicate]
    omega
theorem fn_of {CX : CXT} {P : Program} {w : World} {K : PySem.W.Frag} {mg : Str → Option Value} {base : Heap} {k : Nat} {f : Addr} {name qual : Str} {params : Arguments} {body : List Stmt} {scope : Scope} {dV kV doc pm cdv ct oc : Value} {an od : Option Addr}
    {osl : Array (Option Value)} {N ps : List Str} {sp : Sp} (lk : K.lookup f = some ⟨oc, od, .func (PySem.W.fnOf name qual params body scope dV kV doc pm an cdv ct), osl⟩) (hcd : PySem.W.codeIn K cdv qual = true) (S : FnScope N ps scope)
    (len : ∀ vs H Q E, sp vs H Q E → vs.length = ps.length)
    (hbody : ∀ (A : Around) (outer : List Env) (s : Shared) (H : Hp) (vs : List V) (Q : VK) (E : XK), Room k (A.deeper (envOfC qual scope s.heap.objs.size f cdv)) → sp vs H Q E →
      ∃ t, PSs (cxOf CX P w K mg base N qual scope f cdv A outer s H E) body t ∧ t { nx := fun _ H' => Q .non H', rt := Q } (start N vs) H) :
    FnOk P w K mg base CX (k + 1) f (PySem.W.fnOf name qual params body scope dV kV doc pm an cdv ct) ps sp := by
  refine ⟨len, fun A outer s H args us vs Q E hr e0 hb r hsp => ?_⟩
  have hl := len _ _ _ _ hsp
  have KX : K.In s.heap := e0.mod.kin.keeps fun b o e => (e0.bs b o e).1
  have lim : s.heap.NoLimit := e0.mod.nolimit.keeps fun b o e => (e0.bs b o e).1
  have hkind : ∀ y ∈ ps.zip us, scope.names.lookup y.1 = some .local ∨ (scope.names.lookup y.1 = some .cell ∧ ((cellsFrom (s.heap.objs.size + 1) scope.names []).lookup y.1).isSome = true) := fun ⟨n, v⟩ hy => by
    rcases S.par n (List.of_mem_zip hy).1 with q | q
    · exact .inl q
    · exact .inr ⟨q, PySem.W.cellsFrom_some _ _ _ (.inl q)⟩
  refine codeAny_call_function hr.depth (KX _ _ lk) rfl S.co S.gen rfl (PySem.W.codeRec_of KX hcd) (hb _ _ _ _ ?_)
  refine wpAny_newFunctionEnv_cells S.kind hkind fun env he s1 x => ?_
  subst he
  refine ⟨lim.keeps x.toInCall.keep, codeAny_func ?_⟩
  obtain ⟨t, ht, hq⟩ := hbody A outer s H vs Q E (hr.deeper _) hsp
  have I : Inv (cxOf CX P w K mg base N qual scope f cdv A outer s H E) [] (start N vs) H s1 := inv_start S hr.hd e0 hl r x
  refine wpAny_mono (ht [] s1 (start N vs) H _ I hq) (fun fl s' hs => ?_) fun e s' hs => hs
  have fin : ∀ {σ' : St} {H' : Hp} {v : V} {u : Value}, Inv (cxOf CX P w K mg base N qual scope f cdv A outer s H E) [] σ' H' s' → RelV v u → Q v H' → CE outer P w H s Q u s' :=
    fun {σ' H' v u} J rv q => ⟨v, H', J.os, J.bare, J.base, J.hok, rv, q⟩
  cases fl with
  | ret u =>
    obtain ⟨v, σ', H', J, rv, q⟩ := hs
    exact fin J rv q
  | next =>
    obtain ⟨σ', H', J, q⟩ := hs
    exact fin (v := V.non) (u := Value.none) J rfl q
  | brk =>
    obtain ⟨_, _, _, q⟩ := hs
    exact False.elim q
  | cont =>
    obtain ⟨_, _, _, q⟩ := hs
    exact False.elim q
end L2
namespace L2
open PySem PySem.Spec PyProof.Rows
section
variable {X : Cx} {x : Str} {p pos : Pos} {e : Expr} {es : List Expr} {t : TA} {id T : String} {r : List V → Hp → VK → Prop}
def tCB (r : List V → Hp → VK → Prop) (t : TA) : TE := fun σ H Q => t σ H fun vs H1 => r vs H1 Q
theorem pe_callB (hc : CallR X (.builtin id) r) (hg : Gl X x) (hm : X.mg x = none) (hv : bootBuiltins x = some (.builtin id)) (ha : PA X (e :: es) t) (hn : x ≠ "__name__" := by decide) (hdb : (x == ("__debug__" : Str)) = false := by decide)
    (he : starEach (e :: es) X.env = (false, eval e X.env) :: starEach es X.env := by rfl) (hpl : (backTo pos (starEach es X.env)).any (·.1) = false := by rfl) : PE X (.Call (.Name x p) (e :: es) [] pos) (tCB r t) := by
  intro pins s σ H Q I h
  refine wpAny_Call_Name_kw (ld_blt I hg hm hv ?_ hn hdb)
  exact PyProof.Rows.callWith_builtin1 (thn (ha pos pins s σ H _ I h) fun us s1 ⟨vs, H1, I1, r1, q1⟩ => hc pins s1 σ H1 vs us Q I1 r1 q1) he hpl
theorem pe_callTy (hc : CallR X (.type T) r) (hg : Gl X x) (hm : X.mg x = none) (hv : bootBuiltins x = some (.type T)) (ha : PA X (e :: es) t) (hn : x ≠ "__name__" := by decide) (hdb : (x == ("__debug__" : Str)) = false := by decide)
    (he : starEach (e :: es) X.env = (false, eval e X.env) :: starEach es X.env := by rfl) (hpl : (backTo pos (starEach es X.env)).any (·.1) = false := by rfl) : PE X (.Call (.Name x p) (e :: es) [] pos) (tCB r t) := by
  intro pins s σ H Q I h
  refine wpAny_Call_Name_kw (ld_blt I hg hm hv ?_ hn hdb)
  exact PyProof.Rows.callWith_type1 (thn (ha pos pins s σ H _ I h) fun us s1 ⟨vs, H1, I1, r1, q1⟩ => hc pins s1 σ H1 vs us Q I1 r1 q1) he hpl
end
end L2
namespace HT
open PySem PyProof.Rows
def lexLt : List Int → List Int → Bool
  | [], [] => false
  | [], _ :: _ => true
  | _ :: _, [] => false
  | x :: xs, y :: ys => if x = y then lexLt xs ys else decide (x < y)
section
open PySem.SeqAt
open PySem.AutoSeq1 (wpAny_loadPart')
open PySem.MeetsSeq PySem.MeetsSeq2 PySem.MeetsSeq3
end
section
variable {prog : Program} {w : World} {A : Around} {E : Value → Shared → Prop} {s : Shared}
def sIx (n d : Nat) : Option Int → Nat
  | none => d
  | some v => if v < 0 then (v + (n : Int)).toNat else min v.toNat n
theorem sIx_none (n d : Nat) : sIx n d none = d := rfl
theorem sIx_nat (n d k : Nat) : sIx n d (some (k : Int)) = min k n := by
  show (if (k : Int) < 0 then ((k : Int) + (n : Int)).toNat else min (k : Int).toNat n) = min k n
  rw [if_neg (by omega), Int.toNat_natCast]
theorem sIx_le (n d : Nat) (hd : d ≤ n) (o : Option Int) : sIx n d o ≤ n := by
  cases o with
  | none => exact hd
  | some v =>
    show (if v < 0 then (v + (n : Int)).toNat else min v.toNat n) ≤ n
    by_cases hv : v < 0
    · rw [if_pos hv]; omega
    · rw [if_neg hv]; exact Nat.min_le_right _ _
theorem clip_eq (v : Int) (n d : Nat) : (if v < 0 then max (v + (n : Int)) 0 else min v (n : Int)) = ((sIx n d (some v) : Nat) : Int) := by
  show (if v < 0 then max (v + (n : Int)) 0 else min v (n : Int)) = (((if v < 0 then (v + (n : Int)).toNat else min v.toNat n) : Nat) : Int)
  by_cases hv : v < 0
  · simp only [if_pos hv]; omega
  · simp only [if_neg hv]; omega
theorem adjust_gen (lo hi : Option Int) (n : Nat) : Builtin.Slice.sliceAdjust lo hi 1 (n : Int) = (((sIx n 0 lo : Nat) : Int), ((sIx n n hi : Nat) : Int)) := by
  have h1 : ¬ ((1 : Int) < 0) := by omega
  unfold Builtin.Slice.sliceAdjust
  simp only [h1, if_false]
  refine Prod.ext ?_ ?_
  · cases lo with
    | none => rfl
    | some v => exact clip_eq v n 0
  · cases hi with
    | none => rfl
    | some v => exact clip_eq v n n
theorem places_gen (i j : Nat) : Builtin.Slice.slicePlaces (i : Int) (j : Int) 1 = j - i := by
  unfold Builtin.Slice.slicePlaces
  have h1 : (1 : Int) > 0 := by omega
  simp only [h1, if_true, Int.ediv_one]
  split <;> omega
theorem slicePart_ {v : Value} {o : Option Int} {Q : Option Int → Shared → Prop} (p : IsPart v o) (h : Q o s) : wpAny (model prog w) A (Builtin.Slice.slicePartIndex v) Q E s := by
  cases p with
  | none => exact slicePart_none h
  | int i t => exact slicePart_int h
theorem sliceApplied_gen {sl : Addr} {vl vu : Value} {lo hi : Option Int} {n : Nat} {Q : Int × Int × Nat → Shared → Prop} (hs : s.heap.IsSliceOf sl vl vu .none) (pl : IsPart vl lo) (pu : IsPart vu hi)
    (h : Q (((sIx n 0 lo : Nat) : Int), 1, sIx n n hi - sIx n 0 lo) s) : wpAny (model prog w) A (Builtin.Slice.sliceApplied (.ref sl) (pure (n : Int))) Q E s := by
  obtain ⟨os, hos, hcs, hds⟩ := id hs
  unfold Builtin.Slice.sliceApplied Builtin.Slice.sliceFields
  refine wpAny_bind (wpAny_bind (wpAny_field hos hds (x := vl) rfl (wpAny_bind (wpAny_field hos hds (x := vu) rfl (wpAny_bind (wpAny_field hos hds (x := .none) rfl (wpAny_pure ?_)))))))
  refine wpAny_bind (slicePart_none ?_)
  show wpAny _ _ (if ((1 : Int) == 0) = true then _ else _) _ _ s
  rw [if_neg (by decide)]
  refine wpAny_bind (slicePart_ pl (wpAny_bind (slicePart_ pu (wpAny_bind (wpAny_pure ?_)))))
  show wpAny _ _ (match Builtin.Slice.sliceAdjust lo hi 1 (n : Int) with | (lo, hi) => pure (lo, (1 : Int), Builtin.Slice.slicePlaces lo hi 1)) _ _ s
  rw [adjust_gen lo hi n]
  show wpAny _ _ (pure (((sIx n 0 lo : Nat) : Int), (1 : Int), Builtin.Slice.slicePlaces ((sIx n 0 lo : Nat) : Int) ((sIx n n hi : Nat) : Int) 1)) _ _ s
  rw [places_gen]
  exact wpAny_pure h
theorem pick_gen (xs : Array Value) (i k : Nat) : ((List.range k).filterMap fun (m : Nat) => xs[((i : Int) + (m : Int) * 1).toNat]?).toArray = ((xs.toList.drop i).take k).toArray := by
  have e : (fun (m : Nat) => xs[((i : Int) + (m : Int) * 1).toNat]?) = fun m => xs[i + m]? := by
    funext m
    have : ((i : Int) + (m : Int) * 1).toNat = i + m := by omega
    rw [this]
  rw [e]
  have := pick_run xs i k
  rw [List.filterMap_map] at this
  have e2 : ((fun x => xs[x]?) ∘ fun x => i + x) = fun m => xs[i + m]? := rfl
  rw [e2] at this
  rw [this]
theorem getItem_tuple_cut {t sl : Addr} {items : Array Value} {vl vu : Value} {lo hi : Option Int} {Q : Value → Shared → Prop} (ht : IsTup s.heap t items) (hs : s.heap.IsSliceOf sl vl vu .none) (pl : IsPart vl lo) (pu : IsPart vu hi)
    (hw : ¬ (sIx items.size 0 lo = 0 ∧ sIx items.size items.size hi = items.size))
    (h : Q (.ref s.heap.objs.size) { s with heap := s.heap.push { cls := .type "tuple", data := .seq ((items.toList.drop (sIx items.size 0 lo)).take (sIx items.size items.size hi - sIx items.size 0 lo)).toArray } })
    (hsz : items.size ≤ sizeLine) : wpAny (model prog w) A (getItem (.ref t) (.ref sl)) Q E s := by
  have htake : sizeOk (.seq ((items.toList.drop (sIx items.size 0 lo)).take (sIx items.size items.size hi - sIx items.size 0 lo)).toArray) := by
    show ((items.toList.drop (sIx items.size 0 lo)).take (sIx items.size items.size hi - sIx items.size 0 lo)).toArray.size ≤ sizeLine
    rw [List.size_toArray, List.length_take, List.length_drop, Array.length_toList]
    omega
  have hj : sIx items.size items.size hi ≤ items.size := sIx_le _ _ (Nat.le_refl _) hi
  obtain ⟨os, hos, hcs, hds⟩ := id hs
  have hTs : s.TypeIs (.ref sl) "slice" := ⟨os, hos, hcs⟩
  unfold getItem
  try with_reducible refine wpAny_holding ?_
  first | refine wpAny_bind (wpAny_pure ?_) | skip
  refine wpAny_bind (wpAny_sequenceKey ht.typeIs (by decide) ?_)
  refine wpAny_bind (wpAny_callSpecial?_slot (name := Str.ofString "__getitem__") ht.typeIs PyProof.Rows.slot_tuple_getitem
    (wpAny_call_entry PyProof.Rows.slot_tuple_getitem ht.typeIs entry_tuple_getitem ?_ (args_tuple_getitem _ _)))
  show wpAny _ _ (Builtin.Tuple.tupleItemsOf (.ref t) >>= _) _ _ s
  refine wpAny_bind (tupleItemsOf_ ht ?_)
  refine wpAny_bind (wpAny_typeOf hTs ?_)
  rw [if_pos (by decide)]
  refine wpAny_bind (sliceApplied_gen hs pl pu ?_)
  have hno : ¬ ((((sIx items.size 0 lo : Nat) : Int) == 0 && (1 : Int) == 1 && (sIx items.size items.size hi - sIx items.size 0 lo) == items.size) = true) := by
    intro q
    rw [Bool.and_eq_true, Bool.and_eq_true] at q
    have q1 : ((sIx items.size 0 lo : Nat) : Int) = 0 := eq_of_beq q.1.1
    have q2 : sIx items.size items.size hi - sIx items.size 0 lo = items.size := eq_of_beq q.2
    exact hw ⟨by omega, by omega⟩
  show wpAny _ _ (if (((sIx items.size 0 lo : Nat) : Int) == 0 && (1 : Int) == 1 && (sIx items.size items.size hi - sIx items.size 0 lo) == items.size) = true then _ else _) _ _ s
  rw [if_neg hno, pick_gen]
  first
    | exact wpAny_bind (m := Builtin.Tuple.tupleExact _) (wpAny_newObj_type (wpAny_pure ⟨_, rfl, wpAny_pure h⟩) htake)
    | exact wpAny_bind (m := Builtin.Tuple.tupleExact _) (wpAny_newObj_type (wpAny_bind (wpAny_pure (wpAny_pure ⟨_, rfl, wpAny_pure h⟩))) htake)
    | exact wpAny_bind (wpAny_bind (m := Builtin.Tuple.tupleExact _) (wpAny_newObj_type (wpAny_pure (wpAny_pure ⟨_, rfl, wpAny_pure h⟩)) htake))
    | exact wpAny_bind (wpAny_bind (m := Builtin.Tuple.tupleExact _) (wpAny_newObj_type (wpAny_pure ⟨_, rfl, wpAny_pure h⟩) htake))
end
end HT
namespace L2
open PySem PySem.Spec PyProof.Rows
abbrev TO := St → Hp → (Option Int → Hp → Prop) → Prop
def PO (X : Cx) (e : Option Expr) (t : TO) : Prop :=
  ∀ (pins : List (Addr × Obj)) (s : Shared) (σ : St) (H : Hp) (Q : Option Int → Hp → Prop), Inv X pins σ H s → t σ H Q →
    wpAny (model X.prog X.w) X.A (evalPart e X.env) (fun u s' => ∃ o H', Inv X pins σ H' s' ∧ IsPart u o ∧ Q o H') X.xe s
def tNoPart : TO := fun _ H Q => Q none H
def tPart (t : TE) : TO := fun σ H Q => t σ H fun x H1 => ∃ i, x = .int i ∧ Q (some i) H1
section
variable {X : Cx} {e : Expr} {te : TE} {lo hi : Option Expr} {tl th : TO} {pos p2 : Pos}
theorem po_none : PO X none tNoPart := by
  intro pins s σ H Q I h
  rw [evalPart_none]
  exact wpAny_pure ⟨none, H, I, .none, h⟩
theorem po_some (h : PE X e te) : PO X (some e) (tPart te) := by
  intro pins s σ H Q I hw
  rw [evalPart_some]
  refine thn (h pins s σ H _ I hw) fun u s1 ⟨x, H1, I1, r1, q1⟩ => ?_
  obtain ⟨i, rfl, q⟩ := q1
  obtain ⟨t, rfl⟩ := r1
  exact ⟨some i, H1, I1, .int i t, q⟩
def SlR (X : Cx) (r : V → Option Int → Option Int → Hp → VK → Prop) : Prop :=
  ∀ (pins : List (Addr × Obj)) (s : Shared) (σ : St) (H : Hp) (x : V) (v vl vu : Value) (lo hi : Option Int) (sl : Addr) (Q : VK), Inv X pins σ H s → RelV x v → s.heap.IsSliceOf sl vl vu .none → IsPart vl lo → IsPart vu hi → r x lo hi H Q →
    ∃ T id, typeLookup (.type T) "__getitem__" = pure (some (.builtin id)) ∧ s.TypeIs v T ∧ wpAny (model X.prog X.w) X.A (getItem v (.ref sl)) (EP X pins σ Q) X.xe s
theorem SlR.or {r r' : V → Option Int → Option Int → Hp → VK → Prop} (h : SlR X r) (h' : SlR X r') : SlR X (fun x lo hi H Q => r x lo hi H Q ∨ r' x lo hi H Q) := by
  intro pins s σ H x v vl vu lo hi sl Q I rx hs pl pu q
  rcases q with q | q
  · exact h pins s σ H x v vl vu lo hi sl Q I rx hs pl pu q
  · exact h' pins s σ H x v vl vu lo hi sl Q I rx hs pl pu q
def tSl (r : V → Option Int → Option Int → Hp → VK → Prop) (te : TE) (tl th : TO) : TE := fun σ H Q => te σ H fun x H1 => tl σ H1 fun l H2 => th σ H2 fun u H3 => r x l u H3 Q
theorem pe_slice {r : V → Option Int → Option Int → Hp → VK → Prop} (hr : SlR X r) (he : PE X e te) (hl : PO X lo tl) (hu : PO X hi th) : PE X (.Subscript e (.Slice lo hi none p2) pos) (tSl r te tl th) := by
  intro pins s σ H Q I h
  refine Subscript_ (thn (he pins s σ H _ I h) fun v s1 ⟨x, H1, I1, r1, q1⟩ => ?_)
  refine wpAny_Slice (thn (hl pins s1 σ H1 _ I1 q1) fun vl s2 ⟨l, H2, I2, pl, q2⟩ => thn (hu pins s2 σ H2 _ I2 q2) fun vu s3 ⟨u, H3, I3, pu, q3⟩ => ?_)
  rw [evalPart_none]
  refine wpAny_pure ?_
  have I4 : Inv X pins σ H3 { s3 with heap := s3.heap.push { cls := .type "slice", data := .fields #[vl, vu, .none] } } := I3.kept (t' := s3.toks) fun b ob q => Heap.get?_push_of_some _ q
  obtain ⟨T, id, hT, ht, hg⟩ := hr pins { s3 with heap := s3.heap.push { cls := .type "slice", data := .fields #[vl, vu, .none] } } σ H3 x v vl vu l u s3.heap.objs.size Q I4 r1 (Heap.IsSliceOf.new ..) pl pu q3
  show wpAny (model X.prog X.w) X.A (subscriptTail e (.Slice lo hi none p2) v (.ref s3.heap.objs.size)) (EP X pins σ Q) X.xe { s3 with heap := s3.heap.push { cls := .type "slice", data := .fields #[vl, vu, .none] } }
  exact tail_any (ops := [.ref s3.heap.objs.size, v]) ht hT hg (by with_unfolding_all rfl)
def cutV (xs : List V) (lo hi : Option Int) : List V := (xs.drop (HT.sIx xs.length 0 lo)).take (HT.sIx xs.length xs.length hi - HT.sIx xs.length 0 lo)
theorem cutV_length (xs : List V) (lo hi : Option Int) : (cutV xs lo hi).length ≤ xs.length := by
  unfold cutV
  rw [List.length_take, List.length_drop]
  omega
def rSlT (K : PySem.W.Frag) : V → Option Int → Option Int → Hp → VK → Prop := fun x lo hi H Q => ∃ a xs, x = .ref a ∧ SqT K H a xs ∧
  ¬ (HT.sIx xs.length 0 lo = 0 ∧ HT.sIx xs.length xs.length hi = xs.length) ∧ ∀ p, H p = none → Q (.ref p) (upd H p (.tup (cutV xs lo hi)))
theorem sl_tup : SlR X (rSlT X.K) := by
  intro pins s σ H x v vl vu lo hi sl Q I rx hs pl pu h
  obtain ⟨a, xs, rfl, hx, hw, q⟩ := h
  cases rx
  obtain ⟨its, r, ht, hz⟩ := I.tuple hx
  have hlen : its.toArray.size = xs.length := by rw [List.size_toArray]; exact r.length.symm
  refine ⟨"tuple", _, PyProof.Rows.slot_tuple_getitem.lookup, ht.typeIs, ?_⟩
  refine HT.getItem_tuple_cut ht hs pl pu (by rw [hlen]; exact hw) ?_ (by rw [hlen]; exact hz)
  rw [hlen]
  refine ⟨.ref s.heap.objs.size, _, I.laid (t' := s.toks) (o := .tup (cutV xs lo hi)) (fun b ob q => Heap.get?_push_of_some _ q) (Nat.le_refl _) ?_, rfl, q _ (I.hok.fresh (Nat.le_refl _))⟩
  exact ⟨Nat.le_trans (cutV_length xs lo hi) hz, _, (r.drop (HT.sIx xs.length 0 lo)).take (HT.sIx xs.length xs.length hi - HT.sIx xs.length 0 lo), IsTup.new _ _⟩
def rLtT (K : PySem.W.Frag) : R2 := fun x y H Q => ∃ a b ns ms, x = .ref a ∧ y = .ref b ∧ SqT K H a (ns.map V.int) ∧ SqT K H b (ms.map V.int) ∧ Q (.bl (HT.lexLt ns ms)) H
def rCatT (K : PySem.W.Frag) : R2 := fun x y H Q => ∃ a b xs ys, x = .ref a ∧ y = .ref b ∧ SqT K H a xs ∧ SqT K H b ys ∧ xs ≠ [] ∧ xs.length + ys.length ≤ sizeLine ∧
  (ys = [] → Q (.ref a) H) ∧ (ys ≠ [] → ∀ p, H p = none → Q (.ref p) (upd H p (.tup (xs ++ ys))))
end
end L2
namespace L2
open PySem PySem.Spec PyProof.Rows
def ixN (n : Nat) (i : Int) : Option Nat := if 0 ≤ i then (if i < n then some i.toNat else none) else if -(n : Int) ≤ i then some (i + n).toNat else none
def atI {α : Type} (xs : List α) (i : Int) : Option α := (ixN xs.length i).bind fun j => xs[j]?
theorem ixN_seq {n : Nat} {i : Int} {j : Nat} (h : ixN n i = some j) : seqIndex? i n = some j ∧ j < n ∧ -(n : Int) ≤ i ∧ i < n := by
  unfold ixN at h
  by_cases h0 : 0 ≤ i
  · rw [if_pos h0] at h
    by_cases h1 : i < n
    · rw [if_pos h1] at h
      have e : i.toNat = j := Option.some.inj h
      exact ⟨by rw [seqIndex_of h0 h1, e], by omega, by omega, h1⟩
    · rw [if_neg h1] at h; cases h
  · rw [if_neg h0] at h
    by_cases h1 : -(n : Int) ≤ i
    · rw [if_pos h1] at h
      have e : (i + n).toNat = j := Option.some.inj h
      exact ⟨by rw [seqIndex_neg (by omega) h1, e], by omega, h1, by omega⟩
    · rw [if_neg h1] at h; cases h
theorem atI_get {α : Type} {xs : List α} {i : Int} {v : α} (h : atI xs i = some v) : ∃ j, seqIndex? i xs.length = some j ∧ xs[j]? = some v ∧ j < xs.length ∧ -(xs.length : Int) ≤ i ∧ i < xs.length := by
  unfold atI at h
  cases e : ixN xs.length i with
  | none => rw [e] at h; cases h
  | some j =>
    rw [e] at h
    obtain ⟨h1, h2, h3, h4⟩ := ixN_seq e
    exact ⟨j, h1, h, h2, h3, h4⟩
theorem atI_nat {α : Type} {xs : List α} {j : Nat} {v : α} (h : xs[j]? = some v) : atI xs (j : Int) = some v := by
  have hj : j < xs.length := (List.getElem?_eq_some_iff.mp h).1
  have e : ixN xs.length (j : Int) = some j := by
    unfold ixN
    rw [if_pos (by omega), if_pos (by omega)]; simp
  unfold atI; rw [e]; exact h
def PlainIx (b : Expr) : Prop := ∀ o i, subscripted b false o i = operate [o, i] (getItem o i)
def IxR (X : Cx) (r : R2) : Prop :=
  ∀ (value slice : Expr) (pins : List (Addr × Obj)) (s : Shared) (σ : St) (H : Hp) (x y : V) (v u : Value) (Q : VK), Inv X pins σ H s → RelV x v → RelV y u → r x y H Q →
    subscripted slice false v u = operate [v, u] (getItem v u) → wpAny (model X.prog X.w) X.A (subscriptTail value slice v u) (EP X pins σ Q) X.xe s
def MtR (X : Cx) (id : String) (r : V → List V → Hp → VK → Prop) : Prop :=
  ∀ (pins : List (Addr × Obj)) (s : Shared) (σ : St) (H : Hp) (x : V) (xs : List V) (v : Value) (us : List Value) (Q : VK), Inv X pins σ H s → RelV x v → Vals xs us → r x xs H Q →
    wpAny (model X.prog X.w) X.A (call (.builtin id) (v :: us)) (EP X pins σ Q) X.xe s
section
variable {X : Cx} {a b : Expr} {ta tb : TE} {pos : Pos}
theorem IxR.or {r r' : R2} (h : IxR X r) (h' : IxR X r') : IxR X (fun x y H Q => r x y H Q ∨ r' x y H Q) := by
  intro value slice pins s σ H x y v u Q I rx ry q hs
  rcases q with q | q
  · exact h value slice pins s σ H x y v u Q I rx ry q hs
  · exact h' value slice pins s σ H x y v u Q I rx ry q hs
theorem MtR.or {id : String} {r r' : V → List V → Hp → VK → Prop} (h : MtR X id r) (h' : MtR X id r') : MtR X id (fun x xs H Q => r x xs H Q ∨ r' x xs H Q) := by
  intro pins s σ H x xs v us Q I rx rs q
  rcases q with q | q
  · exact h pins s σ H x xs v us Q I rx rs q
  · exact h' pins s σ H x xs v us Q I rx rs q
theorem pe_ix {r : R2} (hr : IxR X r) (ha : PE X a ta) (hb : PE X b tb) (hs : PlainIx b) : PE X (.Subscript a b pos) (tOp r ta tb) := by
  intro pins s σ H Q I h
  exact Subscript_ (binT ha hb I h fun v u s2 x y H2 I2 rx ry q => hr a b pins s2 σ H2 x y v u Q I2 rx ry q (hs _ _))
def rIxL (K : PySem.W.Frag) : R2 := fun x y H Q => ∃ p xs i v, x = .ref p ∧ y = .int i ∧ SqL K H p xs ∧ atI xs i = some v ∧ Q v H
def rIxT (K : PySem.W.Frag) : R2 := fun x y H Q => ∃ p xs i v, x = .ref p ∧ y = .int i ∧ SqT K H p xs ∧ atI xs i = some v ∧ Q v H
def rIxS : R2 := fun x y H Q => ∃ z i c, x = .str z ∧ y = .int i ∧ z.length ≤ sizeLine ∧ atI z.cps.toList i = some c ∧ Q (.str ⟨#[c]⟩) H
theorem ix_list : IxR X (rIxL X.K) := by
  intro value slice pins s σ H x y v u Q I rx ry h hs
  obtain ⟨p, xs, i, z, rfl, rfl, hq, he, q⟩ := h
  cases rx
  obtain ⟨t, rfl⟩ := ry
  obtain ⟨its, r, pl, hz⟩ := I.list hq
  obtain ⟨j, h1, h2, h3, h4, h5⟩ := atI_get he
  obtain ⟨w, ew, rw'⟩ := r.get h2
  have hl := r.length
  have hn := line63
  have fin : EP X pins σ Q w s := ⟨z, H, I, rw', q⟩
  by_cases h0 : 0 ≤ i
  · have hj : i.toNat = j := by
      rw [seqIndex_of h0 h5] at h1
      exact Option.some.inj h1
    exact item_listR pl.isList h0 (by omega) (by rw [hj]; simpa using ew) fin hs
  · have hj : (i + (its.toArray.size : Int)).toNat = j := by
      rw [seqIndex_neg (by omega) h4] at h1
      rw [List.size_toArray, ← hl]
      exact Option.some.inj h1
    exact subscriptTail_builtinR (x := w) pl.isList.typeIs slot_list_getitem.lookup
      (wpAny_getItem_list_neg (Q := fun r s' => r = w ∧ EP X pins σ Q r s') pl.isList (by omega) (by rw [List.size_toArray] <;> omega) (by omega) (by rw [hj]; simpa using ew) ⟨rfl, fin⟩) hs
theorem ix_tup : IxR X (rIxT X.K) := by
  intro value slice pins s σ H x y v u Q I rx ry h hs
  obtain ⟨p, xs, i, z, rfl, rfl, hq, he, q⟩ := h
  cases rx
  obtain ⟨t, rfl⟩ := ry
  obtain ⟨its, r, pl, hz⟩ := I.tuple hq
  obtain ⟨j, h1, h2, h3, h4, h5⟩ := atI_get he
  obtain ⟨w, ew, rw'⟩ := r.get h2
  have hl := r.length
  have hn := line63
  have fin : EP X pins σ Q w s := ⟨z, H, I, rw', q⟩
  exact subscriptTail_builtinR (x := w) pl.typeIs slot_tuple_getitem.lookup
    (getItem_tuple (j := j) (Q := fun r s' => r = w ∧ EP X pins σ Q r s') pl (by omega) (by omega) (by rw [List.size_toArray, ← hl]; exact h1) (by simpa using ew) ⟨rfl, fin⟩) hs
def rIx (K : PySem.W.Frag) : R2 := fun x y H Q => rIxL K x y H Q ∨ rIxT K x y H Q ∨ rIxS x y H Q
theorem Inv.lst {pins : List (Addr × Obj)} {σ : St} {H : Hp} {s : Shared} {p : Addr} {xs : List V} (I : Inv X pins σ H s) (h : H p = some (.lst xs)) :
    ∃ (its : List Value) (n : Nat), Vals xs its ∧ s.heap.get? p = some { cls := .type "list", data := .seq its.toArray n } ∧ xs.length ≤ sizeLine := by
  obtain ⟨z, its, n, r, e⟩ := I.hok p _ h
  exact ⟨its, n, r, e, z⟩
def rSetL : V → V → V → Hp → (Hp → Prop) → Prop := fun o i v H Q => ∃ p xs k j, o = .ref p ∧ i = .int k ∧ H p = some (.lst xs) ∧ ixN xs.length k = some j ∧ Q (upd H p (.lst (xs.set j v)))
theorem slice_bounds (lo hi : Option Int) (n : Nat) : (sliceBounds lo hi none n).1 = ((HT.sIx n 0 lo : Nat) : Int) ∧ (sliceBounds lo hi none n).2.1 = ((HT.sIx n n hi : Nat) : Int) ∧ (sliceBounds lo hi none n).2.2 = 1 := by
  refine ⟨?_, ?_, rfl⟩
  · cases lo with
    | none => simp [sliceBounds, HT.sIx]
    | some i =>
      simp only [sliceBounds, HT.sIx, Option.getD_none, show (1 : Int) > 0 by decide, if_true]
      by_cases h : i < 0
      · simp only [h, if_true] <;> omega
      · simp only [h, if_false] <;> omega
  · cases hi with
    | none => simp [sliceBounds, HT.sIx]
    | some i =>
      simp only [sliceBounds, HT.sIx, Option.getD_none, show (1 : Int) > 0 by decide, if_true]
      by_cases h : i < 0
      · simp only [h, if_true] <;> omega
      · simp only [h, if_false] <;> omega
theorem slicePick_cut (its : List Value) (lo hi : Option Int) : slicePick its.toArray lo hi none = ((its.drop (HT.sIx its.length 0 lo)).take (HT.sIx its.length its.length hi - HT.sIx its.length 0 lo)).toArray := by
  obtain ⟨h1, h2, h3⟩ := slice_bounds lo hi its.toArray.size
  unfold slicePick
  rw [h1, h2, h3]
  simp only [sliceRange_one, pick_run, List.size_toArray] <;> rfl
def rSlL (K : PySem.W.Frag) : V → Option Int → Option Int → Hp → VK → Prop := fun x lo hi H Q => ∃ a xs, x = .ref a ∧ SqL K H a xs ∧ ∀ p, H p = none → Q (.ref p) (upd H p (.lst (cutV xs lo hi)))
theorem sl_list : SlR X (rSlL X.K) := by
  intro pins s σ H x v vl vu lo hi sl Q I rx hs pl pu h
  obtain ⟨a, xs, rfl, hx, q⟩ := h
  cases rx
  obtain ⟨its, r, ht, hz⟩ := I.list hx
  have hlen := r.length
  refine ⟨"list", _, slot_list_getitem.lookup, ht.isList.typeIs, ?_⟩
  refine wpAny_getItem_list_slice ht.isList hs pl pu .none (by simp) ?_ (by rw [List.size_toArray] <;> omega)
  rw [slicePick_cut, ← hlen]
  refine ⟨.ref s.heap.objs.size, _, I.laid (t' := s.toks) (o := .lst (cutV xs lo hi)) (fun b ob q => Heap.get?_push_of_some _ q) (Nat.le_refl _) ?_, rfl, q _ (I.hok.fresh (Nat.le_refl _))⟩
  exact ⟨Nat.le_trans (cutV_length xs lo hi) hz, _, 0, (r.drop (HT.sIx xs.length 0 lo)).take (HT.sIx xs.length xs.length hi - HT.sIx xs.length 0 lo), Heap.get?_push_size _ rfl⟩
def flatV : V → Bool
  | .non => true
  | .bl _ => true
  | .int _ => true
  | .str _ => true
  | _ => false
def eqV : V → V → Bool
  | .non, .non => true
  | .bl a, .bl b => a == b
  | .bl a, .int b => (if a then 1 else 0) == b
  | .int a, .bl b => a == (if b then 1 else 0)
  | .int a, .int b => a == b
  | .str a, .str b => a == b
  | _, _ => false
theorem eqAt_V {A : Around} {s : Shared} {y x : V} {u v : Value} (ry : RelV y u) (rx : RelV x v) (fy : flatV y = true) (fx : flatV x = true) : SeqAt.EqAt A s u v (eqV y x) := by
  cases y with
  | non =>
    cases ry
    cases x with
    | non => cases rx; exact SeqAt.EqAt.same _
    | bl b => cases rx; exact SeqAt.EqAt.none_bool b
    | int b => obtain ⟨t, rfl⟩ := rx; exact SeqAt.EqAt.none_int b t
    | str b => obtain ⟨t, rfl⟩ := rx; exact SeqAt.EqAt.none_str b t
    | _ => exact absurd (show false = true from fx) Bool.false_ne_true
  | bl a =>
    cases ry
    cases x with
    | non => cases rx; exact SeqAt.EqAt.bool_none a
    | bl b => cases rx; exact SeqAt.EqAt.bool_bool a b
    | int b => obtain ⟨t, rfl⟩ := rx; exact SeqAt.EqAt.bool_int a b t
    | str b => obtain ⟨t, rfl⟩ := rx; exact SeqAt.EqAt.bool_str a b t
    | _ => exact absurd (show false = true from fx) Bool.false_ne_true
  | int a =>
    obtain ⟨t', rfl⟩ := ry
    cases x with
    | non => cases rx; exact SeqAt.EqAt.int_none a t'
    | bl b => cases rx; exact SeqAt.EqAt.int_bool a t' b
    | int b => obtain ⟨t, rfl⟩ := rx; exact SeqAt.EqAt.int_int a t' b t
    | str b => obtain ⟨t, rfl⟩ := rx; exact SeqAt.EqAt.int_str a t' b t
    | _ => exact absurd (show false = true from fx) Bool.false_ne_true
  | str a =>
    obtain ⟨t', rfl⟩ := ry
    cases x with
    | non => cases rx; exact SeqAt.EqAt.str_none a t'
    | bl b => cases rx; exact SeqAt.EqAt.str_bool a t' b
    | int b => obtain ⟨t, rfl⟩ := rx; exact SeqAt.EqAt.str_int a t' b t
    | str b => obtain ⟨t, rfl⟩ := rx; exact SeqAt.EqAt.str_str a t' b t
    | _ => exact absurd (show false = true from fx) Bool.false_ne_true
  | _ => exact absurd (show false = true from fy) Bool.false_ne_true
def eqU (x : V) (u : Value) : Bool := match u with
  | .none => eqV .non x
  | .bool b => eqV (.bl b) x
  | .int i _ => eqV (.int i) x
  | .str z _ => eqV (.str z) x
  | _ => false
theorem eqU_of {x y : V} {u : Value} (r : RelV y u) (f : flatV y = true) : eqU x u = eqV y x := by
  cases y with
  | non => cases r; rfl
  | bl b => cases r; rfl
  | int i => obtain ⟨t, rfl⟩ := r; rfl
  | str z => obtain ⟨t, rfl⟩ := r; rfl
  | _ => exact absurd (show false = true from f) Bool.false_ne_true
theorem any_eqU {x : V} : ∀ {xs : List V} {us : List Value}, Vals xs us → xs.all flatV = true → us.any (eqU x) = xs.any fun y => eqV y x
  | _, _, .nil, _ => rfl
  | y :: xs, u :: us, .cons r t, f => by
    rw [List.all_cons, Bool.and_eq_true] at f
    rw [List.any_cons, List.any_cons, eqU_of r f.1, any_eqU t f.2]
theorem mem_eqAt {A : Around} {s : Shared} {x : V} {v : Value} (rx : RelV x v) (fx : flatV x = true) : ∀ {xs : List V} {us : List Value}, Vals xs us → xs.all flatV = true → ∀ u ∈ us, SeqAt.EqAt A s u v (eqU x u)
  | _, _, .nil, _ => fun u hu => by cases hu
  | y :: xs, u :: us, .cons r t, f => fun u' hu => by
    rw [List.all_cons, Bool.and_eq_true] at f
    rcases List.mem_cons.mp hu with rfl | hu
    · rw [eqU_of r f.1]; exact eqAt_V r rx f.1 fx
    · exact mem_eqAt rx fx t f.2 u' hu
def inV (x : V) (xs : List V) : Bool := xs.any fun y => eqV y x
def rIn (K : PySem.W.Frag) (neg : Bool) : R2 := fun x y H Q => ∃ p xs, y = .ref p ∧ (SqL K H p xs ∨ SqT K H p xs) ∧ flatV x = true ∧ xs.all flatV = true ∧ Q (.bl (if neg then !inV x xs else inV x xs)) H
theorem op_in_seq : OpR X (compareOp .In) (rIn X.K false) := by
  intro pins s σ H x y v u Q I rx ry h
  obtain ⟨p, xs, rfl, hq, fx, fs, q⟩ := h
  cases ry
  rcases hq with hq | hq
  · obtain ⟨its, r, pl, hz⟩ := I.list hq
    refine SeqAt.in_listAt (eqU x) pl.isList (fun w hw => mem_eqAt rx fx r fs w (by simpa using hw)) ⟨.bl _, H, I, rfl, ?_⟩
    rw [show its.toArray.any (eqU x) = its.any (eqU x) by simp, any_eqU r fs]
    exact q
  · obtain ⟨its, r, pl, hz⟩ := I.tuple hq
    refine SeqAt.in_tupleAt (eqU x) pl (fun w hw => mem_eqAt rx fx r fs w (by simpa using hw)) ⟨.bl _, H, I, rfl, ?_⟩
    rw [show its.toArray.any (eqU x) = its.any (eqU x) by simp, any_eqU r fs]
    exact q
theorem call_len_seq : CallR X (.builtin "len") (fun xs H Q => ∃ p ys, xs = [.ref p] ∧ (SqL X.K H p ys ∨ SqT X.K H p ys) ∧ Q (.int ys.length) H) := by
  intro pins s σ H xs us Q I r h
  obtain ⟨p, ys, rfl, hq, q⟩ := h
  obtain ⟨u, rfl, rx⟩ := vals1 r
  cases rx
  have hn := line63
  rcases hq with hq | hq
  · obtain ⟨its, r', pl, hz⟩ := I.list hq
    have hlen := r'.length
    exact Calls.call_len_list pl.isList (by simp only [List.size_toArray] <;> omega) ⟨.int ys.length, H, I.tok _, ⟨s.toks + 1, by rw [List.size_toArray, hlen]⟩, q⟩
  · obtain ⟨its, r', pl, hz⟩ := I.tuple hq
    have hlen := r'.length
    exact len_tuple pl (by simp only [List.size_toArray] <;> omega) ⟨.int ys.length, H, I.tok _, ⟨s.toks + 1, by rw [List.size_toArray, hlen]⟩, q⟩
theorem call_len_str : CallR X (.builtin "len") (fun xs H Q => ∃ z, xs = [.str z] ∧ z.length ≤ sizeLine ∧ Q (.int z.length) H) := by
  intro pins s σ H xs us Q I r h
  obtain ⟨z, rfl, hz, q⟩ := h
  obtain ⟨u, rfl, t, rfl⟩ := vals1 r
  have hn := line63
  exact len_str (by omega) ⟨.int z.length, H, I.tok _, ⟨_, rfl⟩, q⟩
theorem CallR.or {f : Value} {r r' : List V → Hp → VK → Prop} (h : CallR X f r) (h' : CallR X f r') : CallR X f (fun xs H Q => r xs H Q ∨ r' xs H Q) := by
  intro pins s σ H xs us Q I rs q
  rcases q with q | q
  · exact h pins s σ H xs us Q I rs q
  · exact h' pins s σ H xs us Q I rs q
theorem call_tuple_of : CallR X (.type "tuple") (fun xs H Q => ∃ p ys, xs = [.ref p] ∧ ((SqL X.K H p ys ∧ ∀ l, H l = none → Q (.ref l) (upd H l (.tup ys))) ∨ (SqT X.K H p ys ∧ Q (.ref p) H))) := by
  intro pins s σ H xs us Q I r h
  obtain ⟨p, ys, rfl, h⟩ := h
  obtain ⟨u, rfl, rx⟩ := vals1 r
  cases rx
  rcases h with ⟨hq, q⟩ | ⟨hq, q⟩
  · obtain ⟨its, r', pl, hz⟩ := I.list hq
    have hlen := r'.length
    refine call_tuple_list pl.isList (fun h' kp => ?_) (by simp only [List.size_toArray] <;> omega)
    have I1 : Inv X pins σ H { s with heap := h' } := I.kept (t' := s.toks) kp
    have I2 : Inv X pins σ (upd H h'.objs.size (.tup ys)) { s with heap := h'.push { cls := .type "tuple", data := .seq its.toArray } } :=
      I1.laid (t' := s.toks) (fun b o e => Heap.get?_push_of_some _ e) (Nat.le_refl _) (show ObjOk X.prog X.w _ _ _ (.tup ys) from ⟨hz, its, r', IsTup.new _ _⟩)
    exact ⟨.ref h'.objs.size, _, I2, rfl, q _ (I1.hok.fresh (Nat.le_refl _))⟩
  · obtain ⟨its, r', pl, hz⟩ := I.tuple hq
    exact call_tuple_same pl ⟨.ref p, H, I, rfl, q⟩
def tyV (K : PySem.W.Frag) (T : String) (x : V) (H : Hp) : Prop := match x with
  | .str _ => T = "str"
  | .int _ => T = "int"
  | .ref p => (T = "list" ∧ ∃ xs, SqL K H p xs) ∨ (T = "tuple" ∧ ∃ o, K.lookup p = some o ∧ o.cls = .type "tuple" ∧ o.dict = none) ∨
      (T = "dict" ∧ ((∃ kvs, H p = some (.dK kvs)) ∨ ∃ kvs, H p = some (.dT kvs))) ∨ (T = "set" ∧ ∃ S n, H p = some (.set S n))
  | _ => False
theorem tyV_is {pins : List (Addr × Obj)} {σ : St} {H : Hp} {s : Shared} {T : String} {x : V} {v : Value} (I : Inv X pins σ H s) (r : RelV x v) (ty : tyV X.K T x H) :
    s.TypeIs v T ∧ ∀ a, v = .ref a → ∃ ob, s.heap.get? a = some ob ∧ ob.dict = none := by
  cases x with
  | str z =>
    obtain ⟨t, rfl⟩ := r
    cases (show T = "str" from ty)
    exact ⟨typeIs_str s z t, fun _ e => nomatch e⟩
  | int i =>
    obtain ⟨t, rfl⟩ := r
    cases (show T = "int" from ty)
    exact ⟨typeIs_int s i t, fun _ e => nomatch e⟩
  | ref p =>
    cases r
    rcases ty with ⟨rfl, xs, hq⟩ | ⟨rfl, o, hk, hc, hd⟩ | ⟨rfl, hk⟩ | ⟨rfl, S, n, hk⟩
    · obtain ⟨its, _, pl, _⟩ := I.list hq
      refine ⟨pl.isList.typeIs, fun a e => ?_⟩
      cases e
      obtain ⟨o, n, e, c, hd, _⟩ := pl
      exact ⟨o, e, hd⟩
    · refine ⟨⟨o, I.kIn p o hk, hc⟩, fun a e => ?_⟩
      cases e
      exact ⟨o, I.kIn _ o hk, hd⟩
    · have z : ∃ o, s.heap.get? p = some o ∧ o.ExactDict := by
        rcases hk with ⟨kvs, hk⟩ | ⟨kvs, hk⟩
        · obtain ⟨_, _, _, _, o, _, _, e, ex, _⟩ := I.hok p _ hk
          exact ⟨o, e, ex⟩
        · obtain ⟨_, _, _, _, o, _, _, e, ex, _⟩ := I.hok p _ hk
          exact ⟨o, e, ex⟩
      obtain ⟨o, e, ex⟩ := z
      refine ⟨⟨o, e, ex.1⟩, fun a e2 => ?_⟩
      cases e2
      exact ⟨o, e, ex.2.1⟩
    · obtain ⟨o, _, _, _, e, ex, _⟩ := I.hok p _ hk
      refine ⟨⟨o, e, ex.1⟩, fun a e2 => ?_⟩
      cases e2
      exact ⟨o, e, ex.2.1⟩
  | _ => exact False.elim ty
def tBM0 (K : PySem.W.Frag) (T : String) (r : V → List V → Hp → VK → Prop) (to : TE) : TE := fun σ H Q => to σ H fun x H1 => tyV K T x H1 ∧ r x [] H1 Q
def tBM (K : PySem.W.Frag) (T : String) (r : V → List V → Hp → VK → Prop) (to : TE) (t : TA) : TE := fun σ H Q => to σ H fun x H1 => tyV K T x H1 ∧ t σ H1 fun xs H2 => r x xs H2 Q
variable {o e : Expr} {es : List Expr} {to : TE} {t : TA} {name : Str} {apos cpos : Pos} {T id : String} {r : V → List V → Hp → VK → Prop}
theorem pe_bm (pa : PlainAttrs T) (slot : Slot T name id) (hty : typeOf (.builtin id) = pure (.type "method_descriptor")) (hm : MtR X id r) (ho : PE X o to) (ha : PA X (e :: es) t)
    (hbase : attributeBase o name X.env (eval o X.env) = eval o X.env := by rfl)
    (hfew : ((backTo cpos (starEach (e :: es) X.env)).all (fun x => !x.1) && (backToKw cpos (keywordEach [] X.env)).all (fun x => x.1.isSome)
      && decide ((e :: es).length + ([] : List Keyword).length + (if ([] : List Keyword).isEmpty then 0 else 1) < 30)) = true := by rfl)
    (hline : (apos.endLine == cpos.line) = true := by rfl) (hs : starEach (e :: es) X.env = (false, eval e X.env) :: starEach es X.env := by rfl) (hplain : (backTo cpos (starEach es X.env)).any (·.1) = false := by rfl) :
    PE X (.Call (.Attribute o name apos) (e :: es) [] cpos) (tBM X.K T r to t) := by
  intro pins s σ H Q I h
  refine wpAny_Call_method_late hbase hfew hline rfl (thn (ho pins s σ H _ I h) fun v s1 ⟨x, H1, I1, r1, ty, q1⟩ => ?_)
  obtain ⟨h1, h2⟩ := tyV_is I1 r1 ty
  refine ⟨T, id, pa, slot, hty, h1, h2, ?_⟩
  have hA := ha cpos pins s1 σ H1 _ I1 q1
  rw [hs] at hA ⊢
  refine Calls.callWith_builtin (by show (false || (backTo cpos (starEach es X.env)).any (·.1)) = false; rw [hplain] <;> rfl) (Calls.evalArgs_plain ?_)
  exact thn hA fun us s2 ⟨vs, H2, I2, r2, q2⟩ => hm pins s2 σ H2 x vs v us Q I2 r1 r2 q2
/- xs.append(e), list.index on a module's tuple .. are MtR facts of 06m -/
end
end L2
namespace L2
open PySem PySem.Spec PyProof.Rows
def MtM (X : Cx) (id : String) (r : V → List V → Hp → VK → Prop) : Prop :=
  ∀ (pins : List (Addr × Obj)) (s : Shared) (σ : St) (H : Hp) (x : V) (xs : List V) (v : Value) (us : List Value) (Q : VK), Inv X pins σ H s → RelV x v → Vals xs us → r x xs H Q →
    wpAny (model X.prog X.w) X.A (call (.builtin id) (v :: us)) (EP X pins σ Q) X.xe s
theorem Vals.one : ∀ {x : V} {us : List Value}, Vals [x] us → ∃ u, us = [u] ∧ RelV x u
  | _, _, .cons r .nil => ⟨_, rfl, r⟩
theorem Vals.two : ∀ {x y : V} {us : List Value}, Vals [x, y] us → ∃ u v, us = [u, v] ∧ RelV x u ∧ RelV y v
  | _, _, _, .cons r (.cons q .nil) => ⟨_, _, rfl, r, q⟩
theorem Vals.zero : ∀ {us : List Value}, Vals [] us → us = []
  | _, .nil => rfl
theorem Vals.dropLast {xs : List V} {us : List Value} (h : Vals xs us) : Vals xs.dropLast us.dropLast := by
  induction h with
  | nil => exact .nil
  | cons r t ih =>
    cases t with
    | nil => exact .nil
    | cons q t' => exact .cons r ih
theorem Vals.eraseIdx : ∀ {xs : List V} {us : List Value} (i : Nat), Vals xs us → Vals (xs.eraseIdx i) (us.eraseIdx i)
  | _, _, _, .nil => .nil
  | _, _, 0, .cons _ t => t
  | _, _, i + 1, .cons r t => .cons r (Vals.eraseIdx i t)
theorem Vals.reverse {xs : List V} {us : List Value} (h : Vals xs us) : Vals xs.reverse us.reverse := by
  induction h with
  | nil => exact .nil
  | cons r t ih => rw [List.reverse_cons, List.reverse_cons]; exact Vals.append ih (.cons r .nil)
theorem Vals.rep {xs : List V} {us : List Value} (h : Vals xs us) : ∀ k : Nat, Vals (List.replicate k xs).flatten (List.replicate k us).flatten
  | 0 => .nil
  | k + 1 => by
    rw [List.replicate_succ, List.replicate_succ, List.flatten_cons, List.flatten_cons]
    exact Vals.append h (Vals.rep h k)
section
variable {X : Cx} {pins : List (Addr × Obj)} {σ : St} {H : Hp} {s : Shared} {l b : Addr} {xs ys zs : List V}
theorem Inv.lset {its its' : List Value} {n : Nat} {f : Array Value → Array Value} {t' : Nat} (I : Inv X pins σ H s) (hH : H l = some (.lst xs))
    (e : s.heap.get? l = some { cls := .type "list", data := .seq its.toArray n }) (hf : f its.toArray = its'.toArray) (hv : Vals ys its') (hz : ys.length ≤ sizeLine) :
    Inv X pins σ (upd H l (.lst ys)) { s with heap := s.heap.update l (Obj.mapSeq f), toks := t' } := by
  have q := PySem.IsL.update e f
  rw [hf] at q
  refine I.write (x := l) (e := l) (by rw [hH]; exact trivial) (.inl rfl) (fun b' u hb hu => (Heap.get?_update_other s.heap (Obj.mapSeq f) (Ne.symm hb)).trans hu) ⟨_, q⟩ ?_
  exact ⟨hz, its', _, hv, q⟩
theorem Inv.lnew {its : List Value} {t' : Nat} (I : Inv X pins σ H s) (hv : Vals ys its) (hz : ys.length ≤ sizeLine) :
    Inv X pins σ (upd H s.heap.objs.size (.lst ys)) { s with heap := s.heap.push { cls := .type "list", data := .seq its.toArray }, toks := t' } :=
  I.laid (fun _ _ q => Heap.get?_push_of_some _ q) (Nat.le_refl _) ⟨hz, its, 0, hv, Heap.get?_push_size _ rfl⟩
theorem Inv.fresh (I : Inv X pins σ H s) : H s.heap.objs.size = none := I.hok.fresh (Nat.le_refl _)
theorem Inv.lstM (I : Inv X pins σ H s) (hH : H l = some (.lst xs)) : xs.length ≤ sizeLine ∧ ∃ (its : List Value) (n : Nat), Vals xs its ∧ xs.length = its.length ∧ s.heap.get? l = some { cls := .type "list", data := .seq its.toArray n } := by
  obtain ⟨z, its, n, r, e⟩ := I.hok l _ hH
  exact ⟨z, its, n, r, r.length, e⟩
theorem notLongL {n : Nat} (h : n ≤ sizeLine) : Builtin.List.listTooLong n = false := by
  unfold Builtin.List.listTooLong
  exact decide_eq_false (by omega)
end
section
variable {X : Cx}
def rAppend : V → List V → Hp → VK → Prop := fun x vs H Q => ∃ l xs y, x = .ref l ∧ vs = [y] ∧ H l = some (.lst xs) ∧ xs.length < sizeLine ∧ Q .non (upd H l (.lst (xs ++ [y])))
theorem mt_append : MtM X "list.append" rAppend := by
  intro pins s σ H x vs v us Q I rx rv h
  obtain ⟨l, xs, y, rfl, rfl, hH, hz, q⟩ := h
  cases rx
  obtain ⟨u, rfl, ru⟩ := rv.one
  obtain ⟨z, its, n, r, hl, e⟩ := I.lstM hH
  refine call_meets F.slot_list_append ⟨_, e, rfl⟩ F.entry_list_append (F.args_list_append_2 _ _) (PySem.list_append l its.toArray n u (by rw [List.size_toArray]; omega)) ⟨e, ?_⟩
  refine ⟨.non, _, I.lset (its' := its ++ [u]) hH e (by simp) (r.append (.cons ru .nil)) ?_, rfl, q⟩
  rw [List.length_append, List.length_singleton]
  omega
def rExtend : V → List V → Hp → VK → Prop := fun x vs H Q => ∃ l b xs zs, x = .ref l ∧ vs = [.ref b] ∧ H l = some (.lst xs) ∧ H b = some (.lst zs) ∧ xs.length + zs.length ≤ sizeLine ∧ Q .non (upd H l (.lst (xs ++ zs)))
def rPop : V → List V → Hp → VK → Prop := fun x vs H Q => ∃ l xs y, x = .ref l ∧ vs = [] ∧ H l = some (.lst xs) ∧ xs[xs.length - 1]? = some y ∧ Q y (upd H l (.lst xs.dropLast))
def rPopAt : V → List V → Hp → VK → Prop := fun x vs H Q => ∃ l xs i k y, x = .ref l ∧ vs = [.int i] ∧ H l = some (.lst xs) ∧ -(2 ^ 63) ≤ i ∧ i < 2 ^ 63 ∧ seqIndex? i xs.length = some k ∧ xs[k]? = some y ∧ Q y (upd H l (.lst (xs.eraseIdx k)))
def rReverse : V → List V → Hp → VK → Prop := fun x vs H Q => ∃ l xs, x = .ref l ∧ vs = [] ∧ H l = some (.lst xs) ∧ Q .non (upd H l (.lst xs.reverse))
def rClear : V → List V → Hp → VK → Prop := fun x vs H Q => ∃ l xs, x = .ref l ∧ vs = [] ∧ H l = some (.lst xs) ∧ Q .non (upd H l (.lst []))
def rCat : R2 := fun x y H Q => ∃ l b xs zs, x = .ref l ∧ y = .ref b ∧ H l = some (.lst xs) ∧ H b = some (.lst zs) ∧ xs.length + zs.length ≤ sizeLine ∧ ∀ p, H p = none → Q (.ref p) (upd H p (.lst (xs ++ zs)))
theorem op_cat : OpR X (binaryOp .Add) rCat := by
  intro pins s σ H x y v u Q I rx ry h
  obtain ⟨l, b, xs, zs, rfl, rfl, hH, hB, hz, q⟩ := h
  cases rx
  cases ry
  obtain ⟨z, its, n, r, hl, e⟩ := I.lstM hH
  obtain ⟨z2, its2, n2, r2, hl2, e2⟩ := I.lstM hB
  refine PySem.P.add_list e e2 ?_ (by rw [List.size_toArray, List.size_toArray]; omega)
  have ea : its.toArray ++ its2.toArray = (its ++ its2).toArray := by simp
  rw [ea]
  exact ⟨.ref _, _, I.lnew (t' := s.toks) (r.append r2) (by rw [List.length_append]; omega), rfl, q _ I.fresh⟩
def rRep : R2 := fun x y H Q => ∃ l k xs, x = .ref l ∧ y = .int k ∧ H l = some (.lst xs) ∧ -(2 ^ 63) ≤ k ∧ k < 2 ^ 63 ∧ xs.length * k.toNat ≤ sizeLine ∧
  ∀ p, H p = none → Q (.ref p) (upd H p (.lst (List.replicate k.toNat xs).flatten))
end
section
variable {prog : Program} {w : World} {A : Around} {E : Value → Shared → Prop} {s : Shared}
theorem bounds_run {a c n : Nat} (hac : a ≤ c) (hc : c ≤ n) : sliceBounds (some (a : Int)) (some (c : Int)) none n = ((a : Int), (c : Int), 1) := by
  simp only [sliceBounds, Option.getD_none]
  have h1 : ¬ ((a : Int) < 0) := by omega
  have h2 : ¬ ((c : Int) < 0) := by omega
  simp only [h1, h2, if_false, show (1 : Int) > 0 by decide, if_true]
  congr 1
  · omega
  · congr 1; omega
set_option maxRecDepth 100000 in
theorem setItem_slice {l b sl : Addr} {items new : Array Value} {n n2 : Nat} {vl vu : Value} {a c : Nat} {Q : Unit → Shared → Prop}
    (e : s.heap.get? l = some { cls := .type "list", data := .seq items n }) (e2 : s.heap.get? b = some { cls := .type "list", data := .seq new n2 }) (hne : l ≠ b)
    (hs : s.heap.IsSliceOf sl vl vu .none) (pl : IsPart vl (some (a : Int))) (pu : IsPart vu (some (c : Int))) (hac : a ≤ c) (hc : c ≤ items.size)
    (hsz : items.size + new.size ≤ sizeLine) (h : Q () { s with heap := s.heap.update l (Obj.mapSeq fun xs => xs.extract 0 a ++ new ++ xs.extract c xs.size) }) :
    wpAny (model prog w) A (setItem (.ref l) (.ref sl) (.ref b)) Q E s := by
  have hl : s.heap.IsList l items := PySem.IsL.isList e
  have hb : s.heap.IsList b new := PySem.IsL.isList e2
  obtain ⟨os, hos, hcs, hds⟩ := id hs
  have hTs : s.TypeIs (.ref sl) "slice" := ⟨os, hos, hcs⟩
  have hstep : ¬ ((rawPart none == rawInt 0) = true) := Bool.false_ne_true
  have hsame : Builtin.List.listSameRef (.ref l) (.ref b) = false := by
    unfold Builtin.List.listSameRef
    exact beq_eq_false_iff_ne.mpr hne
  have hmax : (max (a : Int) (c : Int)).toNat = c := by omega
  have hz' : ((fun xs : Array Value => xs.extract 0 a ++ new ++ xs.extract c xs.size) items).size ≤ sizeLine + 1 := by
    simp only [Array.size_append, Array.size_extract]
    omega
  unfold setItem
  try with_reducible refine wpAny_holding ?_
  first | refine wpAny_bind (wpAny_pure ?_) | skip
  refine wpAny_bind (wpAny_sequenceKey hl.typeIs (by decide) ?_)
  refine wpAny_bind (wpAny_callSpecial?_slot (name := Str.ofString "__setitem__") hl.typeIs slot_list_setitem
    (wpAny_call_entry slot_list_setitem hl.typeIs entry_list_setitem ?_ (args_list_setitem _ _ _)))
  show wpAny _ _ (Builtin.List.listSubscript? (.ref sl) >>= _) _ _ s
  refine wpAny_bind ?_
  unfold Builtin.List.listSubscript?
  refine wpAny_bind (wpAny_specialOf hTs slice_no_index ?_)
  simp only [Option.isNone_none, if_true]
  refine wpAny_pure ?_
  show wpAny _ _ (typeOf (.ref sl) >>= _) _ _ s
  refine wpAny_bind (wpAny_typeOf hTs ?_)
  first
    | rw [if_neg (by decide)]
    | refine PySem.W.KFB.if_not (by decide) ?_
  rw [listSliceParts_eq]
  refine wpAny_bind (wpAny_bind (wpAny_field hos hds (x := .none) rfl (wpAny_bind (wpAny_listPart .none ?_))))
  rw [if_neg hstep]
  refine wpAny_bind (wpAny_field hos hds (x := vl) rfl (wpAny_bind (wpAny_listPart pl ?_)))
  refine wpAny_bind (wpAny_field hos hds (x := vu) rfl (wpAny_bind (wpAny_listPart pu (wpAny_pure ?_))))
  first
    | simp only [hsame, Bool.false_eq_true, if_false]
    | refine PySem.W.KFB.if_not hsame ?_
    | (dsimp only
       rw [if_neg (by rw [hsame]; exact Bool.false_ne_true)])
  refine wpAny_bind (m := Builtin.List.listAllItems (.ref b) "must assign iterable to extended slice") ?_
  unfold Builtin.List.listAllItems
  refine wpAny_bind (wpAny_typeOf hb.typeIs ?_)
  first
    | refine PySem.W.KFB.if_so (by decide) ?_
    | rw [if_pos (by decide)]
    | simp only [beq_self_eq_true, Bool.true_or, if_true]
  unfold Builtin.List.listItems
  refine wpAny_bind (wpAny_seqItems e2 rfl (wpAny_pure ?_))
  refine wpAny_bind (wpAny_bind (wpAny_seqItems e rfl (wpAny_pure ?_)))
  refine wpAny_bind (wpAny_of_eq ((sliceIndices_raw (some (a : Int)) (some (c : Int)) none items.size (by simp)).trans (congrArg (pure : Int × Int × Int → Sem (Int × Int × Int)) (bounds_run hac hc))) ?_)
  show wpAny _ _ (if ((1 : Int) == 1) = true then _ else _) _ _ s
  rw [if_pos (by decide)]
  refine wpAny_bind (wpAny_rule ?_)
  first
    | simp only [notLongL hsz, Bool.false_eq_true, if_false]
    | refine PySem.W.KFB.if_not (notLongL hsz) ?_
  first | refine wpAny_bind (wpAny_pure ?_) | skip
  show wpAny _ _ (updateSeq l (fun xs => xs.extract 0 ((a : Int)).toNat ++ new ++ xs.extract (max (a : Int) (c : Int)).toNat xs.size) >>= _) _ _ s
  rw [hmax, Int.toNat_natCast]
  refine wpAny_bind (wpAny_updateSeq (hz := Nat.le_trans (Nat.le_add_right _ _) hsz) (_hz' := hz') e rfl ?_)
  refine wpAny_bind (wpAny_letGo ?_)
  first
    | exact wpAny_bind (wpAny_pure (wpAny_pure ⟨.none, rfl, wpAny_pure h⟩))
    | exact wpAny_pure ⟨.none, rfl, wpAny_pure h⟩
end
section
variable {X : Cx}
end
end L2
namespace Att
open PySem PySem.W PySem.Calls PyProof.Rows
theorem ints_of_wellAll {P : Params} {h : Heap} : ∀ (ns : List Int) (vs : List Value), WellAll P h vs (ns.map WData.int) → IntsAre vs ns := by
  intro ns
  induction ns with
  | nil =>
    intro vs w
    rw [List.map_nil] at w
    cases w
    exact .nil
  | cons n ns ih =>
    intro vs w
    rw [List.map_cons] at w
    cases w with
    | cons a b =>
      cases a
      exact .cons _ _ (ih _ b)
theorem script_of {l : OpenLaw} {n : Nat} (hn : l.most = some n) {P : Params} {h : Heap} {args : List WData} {vals : List Value}
    (hpre : l.row.toRowW.claim.pre args = true) (hwl : WellAll P h vals args) :
    ∃ a vs ns, vals = [Value.ref a] ∧ args = [WData.list (ns.map WData.int)] ∧ h.get? a = some { cls := .type "list", data := .seq vs.toArray } ∧ IntsAre vs ns ∧ ns.length ≤ n := by
  have hsh : WShape.hasAll [] args [.list .int] = true := (pre_splitW hpre).1
  have hc : l.pre.holds [] { args := args } = true := (pre_splitW hpre).2
  obtain ⟨d, r, rfl, h1, h2⟩ := hasAllW_cons hsh
  obtain rfl := hasAllW_nil h2
  obtain ⟨xs, rfl, h3⟩ := hasW_list h1
  obtain ⟨ns, rfl⟩ := items_int h3
  have hlen : ns.length ≤ n := by
    unfold OpenLaw.pre at hc
    have h4 : (WTm.not (.lt (.lit (.int (n : Int))) (.len (.arg 0)))).holds [] { args := [.list (ns.map .int)] } = true := by
      have h4 := (holds_andW hc).1
      rw [hn] at h4
      exact h4
    have h5 := condW_of h4 (w_not (w_lt w_lit (w_len_list (w_arg rfl))))
    rw [List.length_map] at h5
    refine Nat.le_of_not_lt fun q => ?_
    have q' : (n : Int) < ((ns.length : Nat) : Int) := by omega
    first
      | (rw [decide_eq_true q'] at h5; exact absurd h5 (by decide))
      | (simp at h5; omega)
  cases hwl with
  | cons w1 w2 =>
    cases w2
    cases w1 with
    | list ho hall => exact ⟨_, _, ns, rfl, rfl, ho, ints_of_wellAll ns _ hall, hlen⟩
theorem post_true (l : OpenLaw) (args : List WData) : l.row.toRowW.claim.post args (.bool true) args = true :=
  postW_of (r := l.row.toRowW) (X := (true == true))
    (show WShape.has [] (.bool true) .bool = true by first | rfl | decide | simp [WShape.has, WShape.arms, WShape.armsAll])
    (show (WTm.eq .res (.lit (.bool true))).value [] { args := args, res := some (.bool true), after := args } = some (.bool (true == true)) from w_eq_bool (w_res rfl) w_lit) rfl
theorem attach_call {l : OpenLaw} {n : Nat} {q : Program} {loose : List Str} {XP : (Str → Option Value) → Heap → Prop} {YP : World → Heap → Prop} {d : DefRec}
    (hn : l.most = some n) (hdf : d.params.defaults = [])
    (call : ∀ (w : World) (s₀ s₁ : Shared) (mg mb : Str → Option Value) (fa : Addr) (o : Obj) (pm cd doc : Value) (a : Addr) (vs : List Value) (ns : List Int),
      Ground q loose [] XP w s₀ mg mb s₁.heap → YP w s₁.heap →
      s₁.heap.get? fa = some o → o.data = .func (docDef d.name d.params d.body d.scope pm cd doc) → s₁.heap.CodeRec cd d.name → mg d.name = some (.ref fa) →
      s₁.heap.get? a = some { cls := .type "list", data := .seq vs.toArray } → IntsAre vs ns → ns.length ≤ n → s₁.gens = #[] →
      codeAny (model l.prog w) callerA (.call (.ref fa) ⟨[.ref a], []⟩) (fun r s' => r = .ok (.ret (.bool true)) ∧ OldK s₁.heap s'.heap ∧ s'.os = s₁.os ∧ AllBare s'.gens) s₁) :
    WalkO q loose XP YP l.row.toRowW d [] (fun f vs => PySem.call f vs) := by
  intro w s₀ s₁ mg mb G Y fa o pm cd doc dV kV ho hd hcd hD hmg hg args vals as hpre hlay hrd hwl hlo
  obtain rfl : dV = .none := Dflts.none hD hdf
  obtain rfl : kV = .none := Dflts.noKw hD
  obtain ⟨a, vs, ns, rfl, rfl, hobj, hints, hlen⟩ := script_of hn hpre hwl
  refine enter_call (codeAny_mono (call w s₀ s₁ mg mb fa o pm cd doc a vs ns G Y ho (fd_plain hd) hcd hmg hobj hints hlen hg) fun r s' hq => ?_)
  obtain ⟨rfl, h2, h3, h4⟩ := hq
  exact ⟨.inl ⟨.bool true, .bool true, [], rfl, fun _ => rfl, .bool true, post_true l _, fun _ => ⟨List.Pairwise.nil, fun _ hm => (nomatch hm)⟩⟩, h2, h3, h4⟩
section
variable {prog : Program} {w : World} {A : Around} {E : Value → Shared → Prop} {s : Shared} {K : Frag}
def noObjs (h : Heap) : Heap := { h with objs := #[] }
def ledger (h : Heap) (L d : Addr) : List (Addr × Obj) := (List.range h.objs.size).filterMap fun a => if a = L ∨ a = d then none else (h.get? a).map fun o => (a, o)
end
end Att
namespace L2
open PySem PySem.Spec PyProof.Rows
theorem vals_ints : ∀ {vs : List Value} {ns : List Int}, IntsAre vs ns → Vals (ns.map V.int) vs
  | _, _, .nil => .nil
  | _, _, .cons n t h => .cons ⟨t, rfl⟩ (vals_ints h)
def Only (H : Hp) : Prop := ∀ b, H b = none ∨ ∃ o xs, H b = some (.frz o (.lst xs))
theorem law_call {P : Program} {w : World} {K : PySem.W.Frag} {mg mb : Str → Option Value} {CX : CXT} {k : Nat} {fa a : Addr} {fd : FuncData} {x : Str} {sp : Sp} {s₁ : Shared} {vs : List Value} {ns : List Int}
    (KX : K.In s₁.heap) (hns : s₁.heap.Ns mainGlobals mg) (hb : s₁.heap.Ns builtinsNs mb) (hbb : ∀ x : Str, x ≠ "__name__" → mb x = bootBuiltins x) (hlim : s₁.heap.NoLimit) (hg : s₁.gens = #[])
    (ha : s₁.heap.get? a = some { cls := .type "list", data := .seq vs.toArray }) (hi : IntsAre vs ns) (hl : ns.length ≤ sizeLine) (hr : Room k callerA)
    (F : ∀ base : Heap, K.In base → base.Ns mainGlobals mg → FnOk P w K mg base CX k fa fd [x] sp) (hbind : ∀ (s : Shared) (u : Value), BindsTo s fd ⟨[u], []⟩ [(x, u)])
    (hsp : ∀ H : Hp, Only H → SqL K H a (ns.map V.int) → sp [.ref a] H (fun v _ => v = .bl true) fun _ _ _ => False)
    (hCX : ∀ H e s', CX [] H s₁ (fun _ _ _ => False) e s' → False) :
    codeAny (model P w) callerA (.call (.ref fa) ⟨[.ref a], []⟩) (fun r s' => r = .ok (.ret (.bool true)) ∧ OldK s₁.heap s'.heap ∧ s'.os = s₁.os ∧ AllBare s'.gens) s₁ := by
  have rv := vals_ints hi
  have lenV := hi.length
  -- from an abstract heap in which nothing but the script may be tracked
  have core : ∀ H : Hp, Only H → SqL K H a (ns.map V.int) → HOk P w H s₁.heap → (∀ b, H b ≠ none → b = a) → (H a ≠ none → K.lookup a = none) →
      codeAny (model P w) callerA (.call (.ref fa) ⟨[.ref a], []⟩) (fun r s' => r = .ok (.ret (.bool true)) ∧ OldK s₁.heap s'.heap ∧ s'.os = s₁.os ∧ AllBare s'.gens) s₁ := by
    intro H hO hS hok hA hK
    have base_of : ∀ {b : Addr} {o : Obj}, s₁.heap.get? b = some o → H b = none → (hidT s₁.heap H).get? b = some o := fun e n => hidT_get e n
    have noA : ∀ {b : Addr} {o : Obj} {es : Array DictEntry} {ep : Nat}, s₁.heap.get? b = some o → o.data = .dict es ep → H b = none := fun {b o es ep} e d => by
      cases q : H b with
      | none => rfl
      | some u =>
        have e' : b = a := hA b (by rw [q]; simp)
        subst e'
        rw [ha] at e; cases e
        have d' : Data.seq vs.toArray _ = Data.dict es ep := d
        cases d'
    have nsK : ∀ {b : Addr} {m : Str → Option Value}, s₁.heap.Ns b m → (hidT s₁.heap H).Ns b m := fun {b m} ⟨o, es, ep, e, d, r⟩ => ⟨o, es, ep, base_of e (noA e d), d, r⟩
    have hKb : K.In (hidT s₁.heap H) := fun b o e => base_of (KX b o e) (by
      cases q : H b with
      | none => rfl
      | some u =>
        have e' : b = a := hA b (by rw [q]; simp)
        subst e'
        rw [hK (by rw [q]; simp)] at e; cases e)
    have hM : Mod K mg (hidT s₁.heap H) := ⟨hKb, nsK hns, ⟨mb, nsK hb, hbb⟩, let ⟨mc, h1, h2⟩ := hlim; ⟨mc, nsK h1, h2⟩⟩
    have e0 : Env0 P w K mg (hidT s₁.heap H) callerA [] s₁ H := ⟨rfl, hM, fun b o e => of_hidT e, Nat.le_of_eq (hidT_size _ _), trivial, fun b hb => absurd (show b ∈ ([] : List Addr) from hb) (by simp), hok, .of_eq hg⟩
    refine codeAny_mono ((F _ hKb (nsK hns)).run callerA [] s₁ H ⟨[.ref a], []⟩ [.ref a] [.ref a] _ _ hr e0 (hbind s₁ (.ref a)) (.cons rfl .nil) (hsp H hO hS)) fun r s' h => ?_
    cases r with
    | error e => exact (hCX H e s' h).elim
    | ok fl =>
      cases fl with
      | next => exact False.elim h
      | brk => exact False.elim h
      | cont => exact False.elim h
      | ret u =>
        obtain ⟨v, H', os, bare, un, hok', r', q⟩ := h
        have q' : v = .bl true := q
        subst q'
        obtain rfl : u = Value.bool true := r'
        refine ⟨rfl, OldK.of_keep fun b o e => ?_, os, bare⟩
        cases q : H b with
        | none => exact un.keep b o e q (by intro z; exact absurd (show b ∈ ([] : List Addr) from z) (by simp)) (by simp)
        | some u =>
          rcases hO b with z | ⟨ob, xs, z⟩
          · rw [q] at z; cases z
          · have z2 := un.frzs b ob _ z
            obtain ⟨e1, _⟩ := hok b _ z
            obtain ⟨e2, _⟩ := hok' b _ z2
            rw [e] at e1; cases e1
            exact e2
  cases hk : K.lookup a with
  | some o =>
    -- the script is one of the module's own objects
    have e := KX a o hk
    rw [ha] at e
    cases e
    refine core (fun _ => none) (fun _ => .inl rfl) (.inr ⟨_, vs.toArray, _, hk, rfl, rfl, rfl, by rw [List.size_toArray, lenV]; exact hl, by simpa using rv⟩) (fun b u z => by have z' : (none : Option HO) = some u := z; cases z') (fun b z => absurd rfl z) fun z => absurd rfl z
  | none =>
    refine core (fun b => if b = a then some (.frz { cls := .type "list", data := .seq vs.toArray } (.lst (ns.map V.int))) else none) (fun b => ?_) (.inl (.inr ⟨{ cls := .type "list", data := .seq vs.toArray }, if_pos rfl⟩)) (fun b u z => ?_) (fun b z => ?_) fun _ => hk
    · by_cases hb : b = a
      · exact .inr ⟨_, _, if_pos hb⟩
      · exact .inl (if_neg hb)
    · by_cases hb : b = a
      · have z' := (if_pos hb).symm.trans z
        cases z'
        subst hb
        exact ⟨ha, by rw [List.length_map]; exact hl, vs, _, rv, ha⟩
      · have z' := (if_neg hb).symm.trans z
        cases z'
    · by_cases hb : b = a
      · exact hb
      · exact absurd (if_neg hb) z
end L2
namespace L2
open PySem PySem.Spec PyProof.Rows
abbrev KOf {K : PySem.W.Frag} {h : Heap} (_ : K.In h) : PySem.W.Frag := K
theorem walk_of {l : PySem.W.OpenLaw} {n k : Nat} {q : Program} {loose : List Str} {XP : (Str → Option Value) → Heap → Prop} {YP : World → Heap → Prop} {d : DefRec} {K : Params → PySem.W.Frag} {CX : World → CXT} {sp : World → Sp} {x : Str}
    (hn : l.most = some n) (hn2 : n ≤ sizeLine) (hdf : d.params.defaults = []) (hr : Room k callerA)
    (hY : ∀ (w : World) (h : Heap), YP w h → (K w.params).In h)
    (F : ∀ (w : World) (mg : Str → Option Value) (fa : Addr) (h : Heap), (K w.params).In h → h.Ns mainGlobals mg → mg d.name = some (.ref fa) →
      ∃ fd : FuncData, (∀ (s : Shared) (u : Value), BindsTo s fd ⟨[u], []⟩ [(x, u)]) ∧
        ∀ base : Heap, (K w.params).In base → base.Ns mainGlobals mg → FnOk l.prog w (K w.params) mg base (CX w) k fa fd [x] (sp w))
    (hsp : ∀ (w : World) (H : Hp) (a : Addr) (ns : List Int), ns.length ≤ n → Only H → SqL (K w.params) H a (ns.map V.int) → sp w [.ref a] H (fun v _ => v = .bl true) fun _ _ _ => False)
    (hCX : ∀ (w : World) (H : Hp) (s : Shared) (e : Value) (s' : Shared), CX w [] H s (fun _ _ _ => False) e s' → False) :
    PySem.W.WalkO q loose XP YP l.row.toRowW d [] (fun f vs => PySem.call f vs) := by
  refine Att.attach_call hn hdf fun w s₀ s₁ mg mb fa o pm cd doc a vs ns G Y ho hd hcd hmg hobj hints hlen hg => ?_
  have KX := hY w _ Y
  obtain ⟨fd, hb, hF⟩ := F w mg fa _ KX G.T.g hmg
  exact law_call KX G.T.g G.T.b G.T.builtins G.T.nolimit hg hobj hints (Nat.le_trans hlen hn2) hr hF hb (fun H hO hS => hsp w H a ns hlen hO hS) fun H e s' => hCX w H s₁ e s'
end L2
/- THE LAST THEOREM (shape; LID, My.* are yours):
   My.Adr: a structure of the addresses that your layer names (classes, functions); My.Txt K t: a structure (Prop) of the equations over K;
   My.txt_mk : {K} {implicit addresses ..} (e1 : nsIn K mainGlobals "law" = some (some (.ref f))) (e2 : K.lookup f = some ⟨oc, od, .func (fnOf "law" "law" params body scope dV kV doc pm an cdv ct), sl⟩) (e3 : codeIn K cdv "law" = true) .. : ∃ t, My.Txt K t
set_option maxRecDepth 100000 in
set_option maxHeartbeats 0 in
theorem PySem.Challenge.cw_LID_holds : PySem.Challenge.rw_LID.Holds := by
  w_on; o_law; k_head; (case hw => w_witness2)
  k_fill
  refine L2.walk_of (l := PySem.Challenge.rw_LID) (n := 63) (k := 40) (x := "script") (CX := fun w => ..) (sp := fun _ => My.sp_law) rfl (by decide) rfl ⟨rfl, by decide, by decide⟩ (fun w h Y => PySem.W.kIn_of Y) ?F ?S ?C
  case F =>
    intro w mg fa h KX G hmg
    have T : ∃ t, My.Txt (L2.KOf KX) t := by
      dsimp only [L2.KOf]                          -- K must stand as «<heap const> w.params» for k_is
      refine' My.txt_mk ?e1 ?e2 ?e3 ..
      (case e1 => PySem.W.k_is)                    -- in the order: a name -> its address -> its object -> its parts
      (case e2 => PySem.W.k_is)
      ..
    obtain ⟨t, T⟩ := T
    have e0 := hmg.symm.trans (PySem.W.mg_of KX G T.law)
    cases e0                                       -- fa is the law's own address
    exact ⟨_, fun s u => .of_eq rfl, fun base kb nb => My.law_fn T kb nb⟩     -- if «.of_eq rfl» comes too early: refine' ⟨_, ?b, fun base kb nb => My.law_fn T kb nb⟩; exact fun s u => .of_eq rfl
  case S => exact fun w H a ns hl hO hS => ..
  case C => exact ..
(the tactic k_is has no namespace: write k_is) -/
namespace L2
open PySem PySem.Spec PyProof.Rows
def inClass (s : Stmt) (j : Nat) : Stmt := match s with
  | .ClassDef _ _ _ body _ _ _ _ _ _ _ => body.getD j (.Pass ⟨0, 0, 0, 0⟩)
  | _ => .Pass ⟨0, 0, 0, 0⟩
def defArgs (s : Stmt) : Arguments := match s with
  | .FunctionDef _ a _ _ _ _ _ _ _ _ => a
  | _ => { posonlyargs := [], args := [], vararg := none, kwonlyargs := [], kw_defaults := [], kwarg := none, defaults := [] }
def defBody (s : Stmt) : List Stmt := match s with
  | .FunctionDef _ _ b _ _ _ _ _ _ _ => b
  | _ => []
def defScope (s : Stmt) : Scope := match s with
  | .FunctionDef _ _ _ _ _ _ sc _ _ _ => sc
  | _ => { kind := .function, names := [], isGenerator := false, isCoroutine := false }
abbrev CX0 : CXT := fun _ _ _ _ _ _ => False
abbrev E0 : XK := fun _ _ _ => False
theorem pass0 {X : Cx} : Passes CX0 X E0 := fun _ _ _ _ _ _ _ h => h.elim
structure Fun (K : PySem.W.Frag) (x qual : Str) (st : Stmt) (f : Addr) (fd : FuncData) : Prop where
  ex : ∃ (oc : Value) (od : Option Addr) (kV doc pm : Value) (an : Option Addr) (cdv ct : Value) (osl : Array (Option Value)),
    fd = PySem.W.fnOf x qual (defArgs st) (defBody st) (defScope st) .none kV doc pm an cdv ct ∧ K.lookup f = some ⟨oc, od, .func fd, osl⟩ ∧ PySem.W.codeIn K cdv qual = true
  kp : PySem.W.keepIn K (.ref f) = true
section
variable {P : Program} {w : World} {K : PySem.W.Frag} {mg : Str → Option Value} {base : Heap}
theorem Fun.ok {x qual : Str} {st : Stmt} {f : Addr} {fd : FuncData} {N ps : List Str} {k : Nat} {sp : Sp} (F : Fun K x qual st f fd) (S : FnScope N ps (defScope st)) (len : ∀ vs H Q E, sp vs H Q E → vs.length = ps.length)
    (hbody : ∀ (cdv : Value) (A : Around) (outer : List Env) (s : Shared) (H : Hp) (vs : List V) (Q : VK) (E : XK), Room k (A.deeper (envOfC qual (defScope st) s.heap.objs.size f cdv)) → sp vs H Q E →
      ∃ t, PSs (cxOf CX0 P w K mg base N qual (defScope st) f cdv A outer s H E).nox (defBody st) t ∧ t { nx := fun _ H' => Q .non H', rt := Q } (start N vs) H) : FnOk P w K mg base CX0 (k + 1) f fd ps sp := by
  obtain ⟨oc, od, kV, doc, pm, an, cdv, ct, osl, rfl, lk, hcd⟩ := F.ex
  refine fn_of lk hcd S len fun A outer s H vs Q E hr hsp => ?_
  obtain ⟨t, h, q⟩ := hbody cdv A outer s H vs Q E hr hsp
  exact ⟨t, h.nox, q⟩
theorem Fun.binds {x qual : Str} {st : Stmt} {f : Addr} {fd : FuncData} {ps : List Str} (F : Fun K x qual st f fd)
    (h : ∀ (kV doc pm : Value) (an : Option Addr) (cdv ct : Value) (us : List Value), us.length = ps.length → bindArgs (PySem.W.fnOf x qual (defArgs st) (defBody st) (defScope st) .none kV doc pm an cdv ct) ⟨us, []⟩ = pure (ps.zip us)) : Binds K fd ps [] := by
  obtain ⟨oc, od, kV, doc, pm, an, cdv, ct, osl, rfl, lk, hcd⟩ := F.ex
  exact .all (h kV doc pm an cdv ct)
theorem fun_mk {x qual : Str} {st : Stmt} {f : Addr} {oc : Value} {od an : Option Addr} {osl : Array (Option Value)} {kV doc pm cdv ct : Value} (l : K.lookup f = some ⟨oc, od, .func (PySem.W.fnOf x qual (defArgs st) (defBody st) (defScope st) .none kV doc pm an cdv ct), osl⟩)
    (c : PySem.W.codeIn K cdv qual = true) (k : PySem.W.keepIn K (.ref f) = true) : Fun K x qual st f (PySem.W.fnOf x qual (defArgs st) (defBody st) (defScope st) .none kV doc pm an cdv ct) := ⟨⟨oc, od, kV, doc, pm, an, cdv, ct, osl, rfl, l, c⟩, k⟩
end
theorem hu_of {A : Around} {k : Nat} (hr : Room k A) : A.units + 1 < cLine := Nat.lt_of_le_of_lt (Nat.add_le_add_left (by decide : 1 ≤ 64) _) hr.units
section
variable {X : Cx}
theorem pv (i : Nat) {x : Str} {pos : Pos} (hN : X.N[i]? = some x := by rfl) (hv : Vis X.env.scope x := by first | exact Or.inl rfl | exact Or.inr (Or.inl rfl) | exact Or.inr (Or.inr rfl)) (hd : (x == ("__debug__" : Str)) = false := by decide)
    (hcd : (x == ("__classdict__" : Str)) = false := by decide) : PE X (.Name x pos) (tVar i) := pe_var hN hv hd hcd
end
theorem iteF {A B : Prop} (h : B) : if false = true then A else B := by
  rw [if_neg Bool.false_ne_true]
  exact h
theorem iteT {A B : Prop} (h : A) : if true = true then A else B := by
  rw [if_pos rfl]
  exact h
def Same (H H' : Hp) : Prop := ∀ b o, H b = some o → H' b = some o
theorem Same.refl (H : Hp) : Same H H := fun _ _ h => h
theorem Same.trans {H H1 H2 : Hp} (a : Same H H1) (b : Same H1 H2) : Same H H2 := fun c o h => b c o (a c o h)
theorem Same.free {H H' : Hp} (e : Same H H') {l : Addr} (h : H' l = Option.none) : H l = Option.none := by
  cases q : H l with
  | none => rfl
  | some o =>
    rw [e l o q] at h
    cases h
theorem Same.seq {K : PySem.W.Frag} {H H' : Hp} {a : Addr} {xs : List V} (e : Same H H') (h : SqL K H a xs) : SqL K H' a xs := by
  rcases h with (h | ⟨o, h⟩) | h
  · exact .inl (.inl (e _ _ h))
  · exact .inl (.inr ⟨o, e _ _ h⟩)
  · exact .inr h
end L2
namespace L2
open PySem PySem.Spec PyProof.Rows
section
variable {κ : Type} [DecidableEq κ]
def valV (kvs : List (κ × V)) (k : κ) : Option V := (kvs.find? fun kv => decide (kv.1 = k)).map (·.2)
def putK (kvs : List (κ × V)) (k : κ) (v : V) : List (κ × V) :=
  if (kvs.any fun kv => decide (kv.1 = k)) = true then kvs.map (fun kv => if kv.1 = k then (kv.1, v) else kv) else kvs ++ [(k, v)]
def dropK (kvs : List (κ × V)) (k : κ) : List (κ × V) := kvs.filter fun kv => decide (kv.1 ≠ k)
theorem valV_pos {p : κ × V} {r : List (κ × V)} {k : κ} (e : p.1 = k) : valV (p :: r) k = some p.2 := by simp [valV, List.find?_cons, e]
theorem valV_neg {p : κ × V} {r : List (κ × V)} {k : κ} (e : ¬ p.1 = k) : valV (p :: r) k = valV r k := by simp [valV, List.find?_cons, e]
theorem valV_any (k : κ) : ∀ kvs : List (κ × V), (kvs.any fun kv => decide (kv.1 = k)) = (valV kvs k).isSome
  | [] => rfl
  | p :: r => by
    rw [List.any_cons]
    by_cases e : p.1 = k
    · simp only [valV_pos e, decide_eq_true e, Bool.true_or, Option.isSome_some]
    · rw [valV_neg e, decide_eq_false e, Bool.false_or]; exact valV_any k r
theorem RelO.isSome_eq {o : Option V} {u : Option Value} (r : RelO o u) : o.isSome = u.isSome := by
  cases o with
  | none => cases u with
    | none => rfl
    | some _ => exact (show False from r).elim
  | some _ => cases u with
    | none => exact (show False from r).elim
    | some _ => rfl
theorem RelO.getD {o : Option V} {u : Option Value} {d : V} {d' : Value} (r : RelO o u) (rd : RelV d d') : RelV (o.getD d) (u.getD d') := by
  cases o with
  | none => cases u with
    | none => exact rd
    | some _ => exact (show False from r).elim
  | some _ => cases u with
    | none => exact (show False from r).elim
    | some _ => exact r
theorem KV.val {kvs : List (κ × V)} {vs : List (κ × Value)} (r : KV kvs vs) (k : κ) : RelO (valV kvs k) (valueAt vs k) := by
  unfold KV at r
  induction r with
  | nil => exact True.intro
  | @cons p q ps qs h t ih =>
    obtain ⟨h1, h2⟩ := h
    by_cases e : p.1 = k
    · have e' : q.1 = k := h1.symm.trans e
      have b : valueAt (q :: qs) k = some q.2 := by simp [valueAt, List.find?_cons, e']
      rw [valV_pos e, b]; exact h2
    · have e' : ¬ q.1 = k := fun z => e (h1.trans z)
      have b : valueAt (q :: qs) k = valueAt qs k := by simp [valueAt, List.find?_cons, e']
      rw [valV_neg e, b]; exact ih
theorem KV.any {kvs : List (κ × V)} {vs : List (κ × Value)} (r : KV kvs vs) (k : κ) : (kvs.any fun kv => decide (kv.1 = k)) = vs.any fun kv => decide (kv.1 = k) := by
  unfold KV at r
  induction r with
  | nil => rfl
  | cons h t ih => rw [List.any_cons, List.any_cons, ih, h.1]
theorem KV.repl {kvs : List (κ × V)} {vs : List (κ × Value)} (r : KV kvs vs) (k : κ) {y : V} {u : Value} (ry : RelV y u) :
    KV (kvs.map fun kv => if kv.1 = k then (kv.1, y) else kv) (vs.map fun kv => if kv.1 = k then (kv.1, u) else kv) := by
  unfold KV at r ⊢
  induction r with
  | nil => exact .nil
  | @cons p q ps qs h t ih =>
    rw [List.map_cons, List.map_cons]
    refine .cons ?_ ih
    obtain ⟨h1, h2⟩ := h
    by_cases e : p.1 = k
    · rw [if_pos e, if_pos (h1.symm.trans e)]; exact ⟨h1, ry⟩
    · rw [if_neg e, if_neg (fun z => e (h1.trans z))]; exact ⟨h1, h2⟩
theorem KV.put {kvs : List (κ × V)} {vs : List (κ × Value)} (r : KV kvs vs) (k : κ) {y : V} {u : Value} (ry : RelV y u) : KV (putK kvs k y) (stored vs k u) := by
  unfold putK stored
  rw [r.any k]
  by_cases e : (vs.any fun kv => decide (kv.1 = k)) = true
  · rw [if_pos e, if_pos e]; exact r.repl k ry
  · rw [if_neg e, if_neg e]; exact Paired.snoc r ⟨rfl, ry⟩
theorem KV.drop {kvs : List (κ × V)} {vs : List (κ × Value)} (r : KV kvs vs) (k : κ) : KV (dropK kvs k) (without vs k) := by
  unfold KV at r ⊢
  unfold dropK without
  induction r with
  | nil => exact .nil
  | @cons p q ps qs h t ih =>
    obtain ⟨h1, h2⟩ := h
    rw [List.filter_cons, List.filter_cons]
    by_cases e : p.1 = k
    · have a : ¬ decide (p.1 ≠ k) = true := by simp [e]
      have b : ¬ decide (q.1 ≠ k) = true := by simp [h1.symm.trans e]
      rw [if_neg a, if_neg b]; exact ih
    · have e' : ¬ q.1 = k := fun z => e (h1.trans z)
      have a : decide (p.1 ≠ k) = true := by simp [e]
      have b : decide (q.1 ≠ k) = true := by simp [e']
      rw [if_pos a, if_pos b]; exact .cons ⟨h1, h2⟩ ih
theorem KV.keys {kvs : List (κ × V)} {vs : List (κ × Value)} (r : KV kvs vs) : kvs.map (·.1) = vs.map (·.1) := by
  unfold KV at r
  induction r with
  | nil => rfl
  | cons h t ih => rw [List.map_cons, List.map_cons, ih, h.1]
theorem KV.length {kvs : List (κ × V)} {vs : List (κ × Value)} (r : KV kvs vs) : kvs.length = vs.length := Paired.length r
end
abbrev KT (H : Hp) : List (List Key × V) → List (List Key × Addr × Value) → Prop := Paired fun p q => p.1 = q.1 ∧ H q.2.1 = some (.tup (p.1.map kV)) ∧ RelV p.2 q.2.2
theorem KT.val {H : Hp} {kvs : List (List Key × V)} {xs : List (List Key × Addr × Value)} (r : KT H kvs xs) (k : List Key) : RelO (valV kvs k) ((atKey xs k).map (·.2)) := by
  induction r with
  | nil => exact True.intro
  | @cons p q ps qs h t ih =>
    obtain ⟨h1, _, h2⟩ := h
    by_cases e : p.1 = k
    · have e' : q.1 = k := h1.symm.trans e
      have b : atKey (q :: qs) k = some q.2 := by simp [atKey, List.find?_cons, e']
      rw [valV_pos e, b]; exact h2
    · have e' : ¬ q.1 = k := fun z => e (h1.trans z)
      have b : atKey (q :: qs) k = atKey qs k := by simp [atKey, List.find?_cons, e']
      rw [valV_neg e, b]; exact ih
theorem KT.repl {H : Hp} {kvs : List (List Key × V)} {xs : List (List Key × Addr × Value)} (r : KT H kvs xs) (k : List Key) {y : V} {u : Value} (ry : RelV y u) :
    KT H (kvs.map fun kv => if kv.1 = k then (kv.1, y) else kv) (xs.map (putAt k u)) := by
  induction r with
  | nil => exact .nil
  | @cons p q ps qs h t ih =>
    rw [List.map_cons, List.map_cons]
    refine .cons ?_ ih
    obtain ⟨h1, h2, h3⟩ := h
    unfold putAt
    by_cases e : p.1 = k
    · rw [if_pos e, if_pos (h1.symm.trans e)]; exact ⟨h1, h2, ry⟩
    · rw [if_neg e, if_neg (fun z => e (h1.trans z))]; exact ⟨h1, h2, h3⟩
theorem KT.put {H : Hp} {kvs : List (List Key × V)} {xs : List (List Key × Addr × Value)} (r : KT H kvs xs) (k : List Key) {b : Addr} {y : V} {u : Value} (hb : H b = some (.tup (k.map kV))) (ry : RelV y u) :
    KT H (putK kvs k y) (storedH xs k b u) := by
  have e : (kvs.any fun kv => decide (kv.1 = k)) = (atKey xs k).isSome := by
    rw [valV_any, (r.val k).isSome_eq, Option.isSome_map]
  unfold putK storedH
  rw [e]
  by_cases q : (atKey xs k).isSome = true
  · rw [if_pos q, if_pos q]; exact r.repl k ry
  · rw [if_neg q, if_neg q]; exact Paired.snoc r ⟨rfl, hb, ry⟩
theorem KT.keeps {H H' : Hp} {kvs : List (List Key × V)} {xs : List (List Key × Addr × Value)} (r : KT H kvs xs) (ht : ∀ b ys, H b = some (.tup ys) → H' b = some (.tup ys)) : KT H' kvs xs :=
  Paired.mapP r fun _ _ z => ⟨z.1, ht _ _ z.2.1, z.2.2⟩
section
variable {P : Program} {w : World} {H : Hp} {h : Heap} {a : Addr}
end
def DGet (H : Hp) (a : Addr) (y : V) (r : Option V) : Prop :=
  (∃ kvs k, Rd H a (.dK kvs) ∧ y = kV k ∧ r = valV kvs k) ∨ ∃ kvs k b, Rd H a (.dT kvs) ∧ y = .ref b ∧ H b = some (.tup (k.map kV)) ∧ r = valV kvs k
def DPut (H : Hp) (a : Addr) (y v : V) (H' : Hp) : Prop :=
  (∃ kvs k, H a = some (.dK kvs) ∧ y = kV k ∧ kvs.length < sizeLine ∧ H' = upd H a (.dK (putK kvs k v))) ∨
  ∃ kvs k b, H a = some (.dT kvs) ∧ y = .ref b ∧ H b = some (.tup (k.map kV)) ∧ kvs.length < sizeLine ∧ H' = upd H a (.dT (putK kvs k v))
theorem DGet.k {H : Hp} {a : Addr} {kvs : List (Key × V)} {k : Key} (e : H a = some (.dK kvs)) : DGet H a (kV k) (valV kvs k) := .inl ⟨kvs, k, .inl e, rfl, rfl⟩
theorem DGet.t {H : Hp} {a b : Addr} {kvs : List (List Key × V)} {k : List Key} (e : H a = some (.dT kvs)) (eb : H b = some (.tup (k.map kV))) : DGet H a (.ref b) (valV kvs k) := .inr ⟨kvs, k, b, .inl e, rfl, eb, rfl⟩
theorem DPut.k {H : Hp} {a : Addr} {kvs : List (Key × V)} {k : Key} {v : V} (e : H a = some (.dK kvs)) (hl : kvs.length < sizeLine) : DPut H a (kV k) v (upd H a (.dK (putK kvs k v))) := .inl ⟨kvs, k, e, rfl, hl, rfl⟩
theorem DPut.t {H : Hp} {a b : Addr} {kvs : List (List Key × V)} {k : List Key} {v : V} (e : H a = some (.dT kvs)) (eb : H b = some (.tup (k.map kV))) (hl : kvs.length < sizeLine) :
    DPut H a (.ref b) v (upd H a (.dT (putK kvs k v))) := .inr ⟨kvs, k, b, e, rfl, eb, hl, rfl⟩
section
variable {X : Cx} {pins : List (Addr × Obj)} {σ : St} {H : Hp} {s : Shared} {a : Addr} {y v : V} {u r : Value} {o : Option V} {A : Around} {E : Value → Shared → Prop}
theorem Inv.big (I : Inv X pins σ H s) : sysModules < s.heap.objs.size := by
  have h : mainGlobals < s.heap.objs.size := (I.mod.glob.keeps I.bk).lt
  exact Nat.lt_trans (by decide) h
end
section
variable {X : Cx} {pins : List (Addr × Obj)} {σ : St} {H : Hp} {s : Shared} {a : Addr} {kvs : List (Key × V)} {k : Key} {u : Value} {A : Around} {E : Value → Shared → Prop}
end
def NoSl (i : Expr) : Prop := ∀ ov iv, subscripted i false ov iv = operate [ov, iv] (getItem ov iv)
def tDGet (td ty : TE) : TE := fun σ H Q => td σ H fun x H1 => ty σ H1 fun y H2 => ∃ a v, x = .ref a ∧ DGet H2 a y (some v) ∧ Q v H2
def tDIn (ty td : TE) : TE := fun σ H Q => ty σ H fun y H1 => td σ H1 fun x H2 => ∃ a o, x = .ref a ∧ DGet H2 a y o ∧ Q (.bl o.isSome) H2
def tDNotIn (ty td : TE) : TE := fun σ H Q => ty σ H fun y H1 => td σ H1 fun x H2 => ∃ a o, x = .ref a ∧ DGet H2 a y o ∧ Q (.bl (!o.isSome)) H2
def sDPut (td ty tv : TE) : TS := fun D σ H => tv σ H fun v H1 => td σ H1 fun x H2 => ty σ H2 fun y H3 => ∃ a H4, x = .ref a ∧ DPut H3 a y v H4 ∧ D.nx σ H4
def sDAug (td ty tv : TE) (rd : V → V → Hp → VK → Prop) : TS := fun D σ H => td σ H fun x H1 => ty σ H1 fun y H2 => ∃ a v, x = .ref a ∧ DGet H2 a y (some v) ∧
  tv σ H2 fun y2 H3 => rd v y2 H3 fun z H4 => ∃ H5, DPut H4 a y z H5 ∧ D.nx σ H5
def sDDel (td ty : TE) : TS := fun D σ H => td σ H fun x H1 => ty σ H1 fun y H2 => ∃ a kvs k, x = .ref a ∧ H2 a = some (.dK kvs) ∧ y = kV k ∧ (valV kvs k).isSome = true ∧ D.nx σ (upd H2 a (.dK (dropK kvs k)))
section
variable {X : Cx} {o i e value : Expr} {pos pos' tpos : Pos} {td ty tv : TE}
end
def tDNewK : TE := fun _ H Q => ∀ p, H p = none → Q (.ref p) (upd H p (.dK []))
def tDNewT : TE := fun _ H Q => ∀ p, H p = none → Q (.ref p) (upd H p (.dT []))
section
variable {X : Cx} {pos : Pos}
end
def tPairs : List (TE × TE) → St → Hp → (List (V × V) → Hp → Prop) → Prop
  | [], _, H, Q => Q [] H
  | (tk, tv) :: r, σ, H, Q => tk σ H fun x H1 => tv σ H1 fun y H2 => tPairs r σ H2 fun ps H3 => Q ((x, y) :: ps) H3
abbrev VV : List (V × V) → List (Value × Value) → Prop := Paired fun p q => RelV p.1 q.1 ∧ RelV p.2 q.2
def PPs (X : Cx) (pos : Pos) (keys : List (Option Expr)) (values : List Expr) (trs : List (TE × TE)) : Prop :=
  ∀ (pins : List (Addr × Obj)) (s : Shared) (σ : St) (H : Hp) (Q : List (V × V) → Hp → Prop), Inv X pins σ H s → tPairs trs σ H Q →
    wpAny (model X.prog X.w) X.A (evalPairs (pairTrees keys values X.env pos)) (fun vs s' => ∃ ps H', Inv X pins σ H' s' ∧ VV ps vs ∧ Q ps H') X.xe s
def mergeK (kvs more : List (Key × V)) : List (Key × V) := more.foldl (fun acc kv => putK acc kv.1 kv.2) kvs
def tDisp (trs : List (TE × TE)) : TE := fun σ H Q => ∀ p, H p = none → tPairs trs σ (upd H p (.dK [])) fun ps H2 => H2 p = some (.dK []) ∧ ∃ kvs : List (Key × V), ps = kvs.map (fun kv => (kV kv.1, kv.2)) ∧ kvs.length ≤ 15 ∧ Q (.ref p) (upd H2 p (.dK (mergeK [] kvs)))
structure M1 (X : Cx) (o : Expr) (m : Str) (apos : Pos) (e : Expr) (cpos : Pos) : Prop where
  base : attributeBase o m X.env (eval o X.env) = eval o X.env
  few : ((backTo cpos (starEach [e] X.env)).all (fun x => !x.1) && (backToKw cpos (keywordEach [] X.env)).all (fun x => x.1.isSome)
    && decide (([e] : List Expr).length + ([] : List Keyword).length + (if ([] : List Keyword).isEmpty then 0 else 1) < 30)) = true
  line : (apos.endLine == cpos.line) = true
  trees : backTo cpos (starEach [e] X.env) = [(false, eval e X.env)]
structure M2 (X : Cx) (o : Expr) (m : Str) (apos : Pos) (e f : Expr) (cpos : Pos) : Prop where
  base : attributeBase o m X.env (eval o X.env) = eval o X.env
  few : ((backTo cpos (starEach [e, f] X.env)).all (fun x => !x.1) && (backToKw cpos (keywordEach [] X.env)).all (fun x => x.1.isSome)
    && decide (([e, f] : List Expr).length + ([] : List Keyword).length + (if ([] : List Keyword).isEmpty then 0 else 1) < 30)) = true
  line : (apos.endLine == cpos.line) = true
  trees : backTo cpos (starEach [e, f] X.env) = [(false, eval e X.env), (false, eval f X.env)]
def IsD (H : Hp) (a : Addr) : Prop := (∃ kvs, Rd H a (.dK kvs)) ∨ ∃ kvs, Rd H a (.dT kvs)
section
variable {X : Cx} {pins : List (Addr × Obj)} {σ : St} {H : Hp} {s : Shared} {a : Addr} {y d : V} {u r : Value} {o : Option V} {A : Around} {E : Value → Shared → Prop}
end
def tDGet1 (td ty : TE) : TE := fun σ H Q => td σ H fun x H1 => ∃ a, x = .ref a ∧ IsD H1 a ∧ ty σ H1 fun y H2 => ∃ o, DGet H2 a y o ∧ Q (o.getD .non) H2
def tDGet2 (td ty tx : TE) : TE := fun σ H Q => td σ H fun x H1 => ∃ a, x = .ref a ∧ IsD H1 a ∧ ty σ H1 fun y H2 => tx σ H2 fun z H3 => ∃ o, DGet H3 a y o ∧ Q (o.getD z) H3
def tDPop1 (td ty : TE) : TE := fun σ H Q => td σ H fun x H1 => ∃ a, x = .ref a ∧ IsD H1 a ∧ ty σ H1 fun y H2 => ∃ kvs k v, H2 a = some (.dK kvs) ∧ y = kV k ∧ valV kvs k = some v ∧ Q v (upd H2 a (.dK (dropK kvs k)))
def tDPop2 (td ty tx : TE) : TE := fun σ H Q => td σ H fun x H1 => ∃ a, x = .ref a ∧ IsD H1 a ∧ ty σ H1 fun y H2 => tx σ H2 fun z H3 => ∃ kvs k, H3 a = some (.dK kvs) ∧ y = kV k ∧
  (∀ v, valV kvs k = some v → Q v (upd H3 a (.dK (dropK kvs k)))) ∧ (valV kvs k = none → Q z H3)
section
variable {X : Cx} {o e f : Expr} {apos cpos : Pos} {td ty tx : TE}
end
section
variable {X : Cx} {pins : List (Addr × Obj)} {σ : St} {H : Hp} {s : Shared} {a : Addr} {kvs : List (Key × V)} {A : Around} {E : Value → Shared → Prop}
end
section
variable {X : Cx} {pins : List (Addr × Obj)} {σ : St} {H : Hp} {s : Shared} {a : Addr} {y : V} {u : Value} {A : Around} {E : Value → Shared → Prop}
end
end L2
namespace L2
open PySem PySem.Spec PyProof.Rows
def capS (cap : List (Option Nat)) (σ : St) : St := cap.map fun o => match o with
  | none => none
  | some j => (σ[j]?).getD none
def CapOk (N N' : List Str) (cap : List (Option Nat)) (sc scope : Scope) : Prop :=
  N'.length = cap.length ∧ scope.kind = .function ∧
  (∀ y ∈ scope.names, y.2 ≠ .cell ∧ (y.2 = .local → scope.names.lookup y.1 = some .local) ∧ (y.2 = .free → sc.names.lookup y.1 = some .cell ∨ sc.names.lookup y.1 = some .free)) ∧
  ∀ p ∈ cap.zip N', ∀ j ∈ p.1.toList, N[j]? = some p.2 ∧ scope.names.lookup p.2 = some .free
instance {N N' : List Str} {cap : List (Option Nat)} {sc scope : Scope} : Decidable (CapOk N N' cap sc scope) := by unfold CapOk; infer_instance
theorem lookup_relab {env : Env} {x : Str} : ∀ {names : List (Str × NameKind)},
    (names.map fun (n, k) => if (k == NameKind.free && env.scope.kind == .function && env.kindOf n == some .cell) then (n, NameKind.cell) else (n, k)).lookup x =
      (names.lookup x).map fun k => if (k == NameKind.free && env.scope.kind == .function && env.kindOf x == some .cell) then NameKind.cell else k
  | [] => rfl
  | (n, k) :: r => by
    have ih := @lookup_relab env x r
    show List.lookup x ((if (k == NameKind.free && env.scope.kind == .function && env.kindOf n == some .cell) = true then (n, NameKind.cell) else (n, k)) :: _) = _
    cases hx : x == n with
    | true =>
      have e : x = n := by simpa using hx
      subst e
      by_cases hc : (k == NameKind.free && env.scope.kind == .function && env.kindOf x == some .cell) = true
      · rw [if_pos hc]; simp only [List.lookup_cons, hx, Option.map_some]; rw [if_pos hc]
      · rw [if_neg hc]; simp only [List.lookup_cons, hx, Option.map_some]; rw [if_neg hc]
    | false =>
      by_cases hc : (k == NameKind.free && env.scope.kind == .function && env.kindOf n == some .cell) = true
      · rw [if_pos hc]; simp only [List.lookup_cons, hx]; exact ih
      · rw [if_neg hc]; simp only [List.lookup_cons, hx]; exact ih
theorem relab_free {scope : Scope} {env : Env} {x : Str} (hc : ∀ y ∈ scope.names, y.2 ≠ .cell) (h : (relabel scope env).names.lookup x = some .cell ∨ (relabel scope env).names.lookup x = some .free) : scope.names.lookup x = some .free := by
  unfold relabel at h
  rw [lookup_relab] at h
  cases e : scope.names.lookup x with
  | none => rw [e] at h; rcases h with h | h <;> cases h
  | some k =>
    have hk : k ≠ .cell := hc _ (PySem.mem_of_lookup e)
    rw [e] at h
    simp only [Option.map_some] at h
    by_cases c : (k == NameKind.free && env.scope.kind == .function && env.kindOf x == some .cell) = true
    · have : k = .free := by
        simp only [Bool.and_eq_true, beq_iff_eq] at c
        exact c.1.1
      rw [this]
    · rw [if_neg c] at h
      rcases h with h | h
      · exact absurd (Option.some.inj h) hk
      · rw [Option.some.inj h]
theorem relab_of {scope : Scope} {env : Env} {x : Str} (h : scope.names.lookup x = some .free) : (relabel scope env).names.lookup x = some .cell ∨ (relabel scope env).names.lookup x = some .free := by
  unfold relabel
  rw [lookup_relab, h]
  simp only [Option.map_some]
  split
  · exact .inl rfl
  · exact .inr rfl
def clOf (env : Env) : List (Str × NameKind) → List (Str × Addr) → List (Str × Addr)
  | [], acc => acc
  | (n, k) :: r, acc => clOf env r (if k = .free then (match env.cells.lookup n with | some c => (n, c) :: acc | none => acc) else acc)
theorem forIn_clo {env : Env} {f : (Str × NameKind) → List (Str × Addr) → Sem (ForInStep (List (Str × Addr)))} (h1 : ∀ n c cs, env.cells.lookup n = some c → f (n, .free) cs = pure (.yield ((n, c) :: cs)))
    (h2 : ∀ n k cs, k ≠ .free → f (n, k) cs = pure (.yield cs)) : ∀ {names : List (Str × NameKind)} {acc : List (Str × Addr)}, (∀ y ∈ names, y.2 = .free → ∃ c, env.cells.lookup y.1 = some c) →
      forIn names acc f = pure (clOf env names acc)
  | [], acc, _ => rfl
  | (n, k) :: r, acc, h => by
    have hr : ∀ y ∈ r, y.2 = .free → ∃ c, env.cells.lookup y.1 = some c := fun y hy => h y (List.mem_cons_of_mem _ hy)
    rw [List.forIn_cons]
    by_cases hk : k = .free
    · subst hk
      obtain ⟨c, e⟩ := h (n, .free) List.mem_cons_self rfl
      have e' : env.cells.lookup n = some c := e
      rw [h1 n c acc e', pure_bind]
      show forIn r ((n, c) :: acc) f = _
      rw [forIn_clo h1 h2 hr]
      show _ = pure (clOf env r (if NameKind.free = .free then _ else acc))
      rw [if_pos rfl, e']
    · rw [h2 n k acc hk, pure_bind]
      show forIn r acc f = _
      rw [forIn_clo h1 h2 hr]
      show _ = pure (clOf env r (if k = .free then _ else acc))
      rw [if_neg hk]
theorem clo_eq {env : Env} {scope : Scope} (h : ∀ y ∈ scope.names, y.2 = .free → ∃ c, env.cells.lookup y.1 = some c) : closureFor scope env = pure (clOf env scope.names []) := by
  simp only [closureFor]
  rw [forIn_clo (env := env) ?_ ?_ h]
  · rfl
  · intro n c cs e
    simp only [beq_self_eq_true, if_true]
    have : cellOf env n = pure c := by unfold cellOf; rw [e]
    rw [this]
    rfl
  · intro n k cs hk
    have : (k == NameKind.free) = false := by simpa using hk
    simp only [this, Bool.false_eq_true, if_false]
theorem clOf_sub {env : Env} : ∀ {names : List (Str × NameKind)} {acc : List (Str × Addr)}, (∀ x c, acc.lookup x = some c → env.cells.lookup x = some c) → ∀ x c, (clOf env names acc).lookup x = some c → env.cells.lookup x = some c
  | [], _, h => h
  | (n, k) :: r, acc, h => by
    show ∀ x c, (clOf env r (if k = .free then (match env.cells.lookup n with | some c => (n, c) :: acc | none => acc) else acc)).lookup x = some c → _
    refine clOf_sub ?_
    split
    · cases e : env.cells.lookup n with
      | none => exact h
      | some c =>
        intro x c' q
        simp only [List.lookup_cons] at q
        cases hx : x == n with
        | true =>
          rw [hx] at q
          have e1 : x = n := by simpa using hx
          rw [e1, e]
          exact q
        | false => rw [hx] at q; exact h x c' q
    · exact h
theorem clOf_sub0 {env : Env} {names : List (Str × NameKind)} {x : Str} {c : Addr} (h : (clOf env names []).lookup x = some c) : env.cells.lookup x = some c := clOf_sub (fun _ _ z => by cases z) x c h
theorem clOf_mono {env : Env} {x : Str} : ∀ {names : List (Str × NameKind)} {acc : List (Str × Addr)}, (∃ c, acc.lookup x = some c) → ∃ c, (clOf env names acc).lookup x = some c
  | [], _, h => h
  | (n, k) :: r, acc, h => by
    show ∃ c, (clOf env r (if k = .free then (match env.cells.lookup n with | some c => (n, c) :: acc | none => acc) else acc)).lookup x = some c
    refine clOf_mono ?_
    split
    · cases e : env.cells.lookup n with
      | none => exact h
      | some c =>
        show ∃ c', List.lookup x ((n, c) :: acc) = some c'
        simp only [List.lookup_cons]
        cases hx : x == n with
        | true => exact ⟨c, rfl⟩
        | false => exact h
    · exact h
theorem clOf_has {env : Env} {x : Str} : ∀ {names : List (Str × NameKind)} {acc : List (Str × Addr)}, (x, NameKind.free) ∈ names → (∃ c, env.cells.lookup x = some c) → ∃ c, (clOf env names acc).lookup x = some c
  | [], _, h, _ => by cases h
  | (n, k) :: r, acc, h, hc => by
    show ∃ c, (clOf env r (if k = .free then (match env.cells.lookup n with | some c => (n, c) :: acc | none => acc) else acc)).lookup x = some c
    rcases List.mem_cons.mp h with e | h
    · cases e
      obtain ⟨c, e⟩ := hc
      rw [if_pos rfl, e]
      refine clOf_mono ⟨c, ?_⟩
      simp only [List.lookup_cons, beq_self_eq_true]
    · exact clOf_has h hc
def Cx.comp (X : Cx) (N' : List Str) (scope : Scope) (cl : List (Str × Addr)) (C : Addr) (s₂ : Shared) (H₂ : Hp) (fp : List Addr) (pins : List (Addr × Obj)) : Cx :=
  { prog := X.prog, w := X.w, K := X.K, mg := X.mg, base := X.base, A := X.A, N := N', s₀ := s₂, H₀ := H₂, env := compEnvC scope cl C X.env, outer := X.stack, stack := X.stack, ex := fp, fn := fun _ => false, calm := X.calm,
    pn := X.pn ++ pins, xe := fun _ _ => False }
section
variable {X : Cx} {pins : List (Addr × Obj)} {σ : St} {H : Hp} {s : Shared} {N' : List Str} {cap : List (Option Nat)} {scope : Scope} {fp : List Addr} {C : Addr}
theorem CapOk.nocell {N : List Str} {sc : Scope} (h : CapOk N N' cap sc scope) : ∀ y ∈ scope.names, y.2 ≠ .cell := fun y hy => (h.2.2.1 y hy).1
theorem CapOk.loc {N : List Str} {sc : Scope} (h : CapOk N N' cap sc scope) : ∀ y ∈ scope.names, y.2 = .local → scope.names.lookup y.1 = some .local := fun y hy => (h.2.2.1 y hy).2.1
theorem Inv.cellsFor (I : Inv X pins σ H s) (cp : CapOk X.N N' cap X.env.scope scope) : ∀ y ∈ scope.names, y.2 = .free → ∃ c, X.env.cells.lookup y.1 = some c := fun y hy e => I.ok.has y.1 ((cp.2.2.1 y hy).2.2 e)
theorem Inv.compOk (I : Inv X pins σ H s) (cp : CapOk X.N N' cap X.env.scope scope) (hf : ∀ b ∈ fp, FpOk X pins H b) (hfp : ∀ b ∈ fp, b < s.heap.objs.size) (hC : s.heap.objs.size ≤ C) :
    (X.comp N' scope (clOf X.env scope.names []) C s H fp pins).Ok where
  mod := I.ok.mod
  kind := cp.2.1
  glob := I.ok.glob
  blt := I.ok.blt
  above := hC
  inj := fun x y c h1 h2 => I.ok.inj x y c (clOf_sub0 h1) (clOf_sub0 h2)
  has := fun x hx => by
    have e : scope.names.lookup x = some .free := relab_free cp.nocell hx
    have hm : (x, NameKind.free) ∈ scope.names := PySem.mem_of_lookup e
    exact clOf_has hm (I.cellsFor cp _ hm rfl)
  cab := fun _ _ z => by cases z
  hd := I.ok.hd
  frames := I.ok.frames
  stk := .inl rfl
  exf := fun b hb => ⟨Nat.ne_of_lt (Nat.lt_of_lt_of_le (hfp b hb) hC), fun x c e => (hf b hb).2.2.2.2.1 x c (clOf_sub0 e)⟩
  bs := I.bs
  bsz := Nat.le_trans I.ok.bsz I.sz
  noex := fun b o e hb => by
    rcases (hf b hb).2.2.2.1 with z | z
    · exact I.ok.noex b o e z
    · exact absurd (Nat.lt_of_lt_of_le (Heap.lt_size e) (Nat.le_trans I.ok.bsz z)) (Nat.lt_irrefl _)
  exfs := fun b hb hs => by
    rcases List.mem_cons.mp (I.stkSub b hs) with z | z
    · exact (hf b hb).2.1 z
    · exact (hf b hb).2.2.1 z
  funs := I.stack
  frf := I.stkFree
theorem Inv.track {D : Addr} {ys : List V} {its : List Value} {n : Nat} (I : Inv X pins σ H s) (hf : FpOk X pins H D) (e : s.heap.get? D = some { cls := .type "list", data := .seq its.toArray n }) (r : Vals ys its) (hz : ys.length ≤ sizeLine) :
    Inv X pins σ (upd H D (.lst ys)) s := by
  have ne : ∀ b u, H b = some u → b ≠ D := fun b u q => ne_of_none q hf.1
  refine I.step (h' := s.heap) (g' := s.gens) (t' := s.toks) (d' := s.drawn) (ch := [D]) (fun b hb => ?_) (fun b o _ _ _ q _ => q) (fun b o _ _ _ q _ => ⟨o.slots, q⟩) (fun b o hc q n => ?_) (fun b o _ q => ⟨o, q⟩)
    (fun b xs q => by rw [upd_ne (ne b _ q)]; exact q) (fun b o u q => by rw [upd_ne (ne b _ q)]; exact q) (fun b ps q => ⟨#[], by rw [upd_ne (ne b _ q), q]; simp⟩) (fun m hm => hm) (fun b u q => ?_) I.bare
  · have e : b = D := by simpa using hb
    subst e
    exact ⟨hf.2.2.2.1, hf.2.1, hf.2.2.2.2.1, hf.2.2.2.2.2⟩
  · rw [upd_ne (fun z => hc (by simp [z]))]
    exact n
  · by_cases hb : b = D
    · subst hb
      rw [upd_same] at q
      cases q
      exact ⟨hz, its, n, r, e⟩
    · rw [upd_ne hb] at q
      exact (I.hok b u q).stay (fun c v _ z => z) (fun c z => by rw [upd_ne (ne c _ z)]; exact z) fun c xs z => by rw [upd_ne (ne c _ z)]; exact z
end
section
variable {prog : Program} {w : World} {A : Around} {R : Result → Shared → Prop} {s : Shared}
theorem comp_loop {elt target iter : Expr} {ifs : List Expr} {scope : Scope} {pos : Pos} {it acc : Value} {env : Env} (I : Nat → Shared → Prop)
    (turn : ∀ n s, I n s → wpAny (model prog w) A (pyNext it) (fun r s₁ => match r with
      | none => R (.ok .next) s₁
      | some v => wpAny (model prog w) A (letOwnedTupleGo target it v) (fun _ s₀ => wpAny (model prog w) A (assign target env v) (fun _ s₂ =>
          wpAny (model prog w) A (forIn ifs true fun c r => if r = true then do let ok ← isTrue c env (eval c env); pure (ForInStep.yield ok) else pure (ForInStep.yield r)) (fun ok s₃ =>
            if ok = true then wpAny (model prog w) A (eval elt env) (fun x s₄ =>
              wpAny (model prog w) A (call (.builtin "list.append") [acc, x]) (fun _ s₅ => ∃ m, m < n ∧ I m s₅) (notedBy (model prog w) A env fun e s' => R (.error e) s') s₄) (notedBy (model prog w) A env fun e s' => R (.error e) s') s₃
            else ∃ m, m < n ∧ I m s₃) (notedBy (model prog w) A env fun e s' => R (.error e) s') s₂) (notedBy (model prog w) A env fun e s' => R (.error e) s') s₀) (notedBy (model prog w) A env fun e s' => R (.error e) s') s₁)
      (notedBy (model prog w) A env fun e s' => R (.error e) s') s)
    (n : Nat) (h : I n s) : codeAny (model prog w) A (.compLoop (.ListComp elt [⟨target, iter, ifs, 0⟩] scope pos) 0 it acc env) R s := by
  refine codeAny_loop rfl I (fun n s hI => ?_) n h
  show wpAny _ A ((compTurn (.ListComp elt [⟨target, iter, ifs, 0⟩] scope pos) 0 it acc env).onRaise (fun x => do noteFrame x env; theTreesLotGoes x)) _ _ s
  refine wpAny_noted ?_
  rw [compTurn_list]
  refine wpAny_bind (wpAny_standAt (wpAny_bind (wpAny_mono (turn n s hI) (fun r s₁ h₁ => ?_) fun _ _ h' => h')))
  cases r with
  | none => exact wpAny_pure h₁
  | some v =>
    refine wpAny_bind (wpAny_mono h₁ (fun _ s₀ h₀' => ?_) fun _ _ h' => h')
    refine wpAny_bind (wpAny_mono h₀' (fun _ s₂ h₂ => wpAny_bind (wpAny_mono h₂ (fun ok s₃ h₃ => ?_) fun _ _ h' => h')) fun _ _ h' => h')
    cases ok with
    | false => exact wpAny_pure ⟨rfl, h₃⟩
    | true =>
      exact wpAny_bind (wpAny_bind (wpAny_mono h₃ (fun x s₄ h₄ => wpAny_bind (wpAny_mono h₄ (fun _ s₅ h₅ => wpAny_pure (wpAny_pure ⟨rfl, h₅⟩)) fun _ _ h' => h')) fun _ _ h' => h'))
end
def PIfs (X : Cx) (ifs : List Expr) (t : TT) : Prop :=
  ∀ (pins : List (Addr × Obj)) (s : Shared) (σ : St) (H : Hp) (Q : Bool → Hp → Prop), Inv X pins σ H s → t σ H Q →
    wpAny (model X.prog X.w) X.A (forIn ifs true fun c r => if r = true then do let ok ← isTrue c X.env (eval c X.env); pure (ForInStep.yield ok) else pure (ForInStep.yield r)) (TP X pins σ Q) X.xe s
def tYes : TT := fun _ H Q => Q true H
theorem pif_nil {X : Cx} : PIfs X [] tYes := fun _ _ _ H _ I h => wpAny_tests_nil ⟨H, I, h⟩
theorem pif_one {X : Cx} {c : Expr} {t : TT} (h : PT X c t) : PIfs X [c] t := fun pins s σ H Q I hw => wpAny_tests_one (h pins s σ H Q I hw)
def Ext (σ σ' : St) : Prop := σ'.length = σ.length ∧ ∀ (i : Nat) v, σ[i]? = some (some v) → σ'[i]? = some (some v)
def GK (g : TG) (cap : List (Option Nat)) : Prop := ∀ (σ : St) (v : V) (H : Hp) (Q : St → Hp → Prop), g v (capS cap σ) H Q → g v (capS cap σ) H fun σ4 H4 => Ext (capS cap σ) σ4 ∧ Q σ4 H4
theorem capS_none {cap : List (Option Nat)} {σ : St} {i : Nat} (h : cap[i]? = some none) : (capS cap σ)[i]? = some none := by
  unfold capS
  rw [List.getElem?_map, h]
  rfl
theorem Ext.refl (σ : St) : Ext σ σ := ⟨rfl, fun _ _ h => h⟩
theorem Ext.trans {a b c : St} (h : Ext a b) (h' : Ext b c) : Ext a c := ⟨h'.1.trans h.1, fun i v e => h'.2 i v (h.2 i v e)⟩
theorem Ext.set {σ σ' : St} {i : Nat} (e : Ext σ σ') (h : σ[i]? = some none) (v : Option V) : Ext σ (σ'.set i v) := by
  refine ⟨by rw [List.length_set]; exact e.1, fun j u q => ?_⟩
  by_cases hj : j = i
  · subst hj
    rw [h] at q
    cases q
  · rw [List.getElem?_set_ne (Ne.symm hj)]
    exact e.2 j u q
theorem gk_name {cap : List (Option Nat)} {i : Nat} (h : cap[i]? = some none) : GK (gName i) cap := fun σ _ _ _ q => ⟨(Ext.refl _).set (capS_none h) _, q⟩
theorem gk_two {K : PySem.W.Frag} {cap : List (Option Nat)} {i j : Nat} (hi : cap[i]? = some none) (hj : cap[j]? = some none) : GK (gTup K 2 (gCons (gName i) (gCons (gName j) gNil))) cap := by
  rintro σ v H Q ⟨a, xs, e, hq, hl, v1, r1, e1, v2, r2, e2, e3, q⟩
  exact ⟨a, xs, e, hq, hl, v1, r1, e1, v2, r2, e2, e3, (((Ext.refl _).set (capS_none hi) _).set (capS_none hj) _), q⟩
def compR (g : TG) (ti : TT) (te : TE) (cap : List (Option Nat)) (σ : St) (Q : VK) : It → Hp → Prop := fun J H1 => ∃ (n : Nat) (Pv : Nat → List V → Hp → Prop), n ≤ sizeLine ∧ Pv 0 [] H1 ∧
  (∀ i ys H2, i < n → Pv i ys H2 → J.go i H2 ∧ ∀ x H3, J.yld i H2 x H3 → g x (capS cap σ) H3 fun σ4 H4 => ti σ4 H4 fun b H5 => if b = true then te σ4 H5 fun y H6 => Pv (i + 1) (ys ++ [y]) H6 else Pv (i + 1) ys H5) ∧
  ∀ ys H2, Pv n ys H2 → J.stop n H2 ∧ ∀ D, H2 D = none → Q (.ref D) (upd H2 D (.lst ys))
def tComp (wi : TI) (g : TG) (ti : TT) (te : TE) (cap : List (Option Nat)) : TE := fun σ H Q => wi σ H (compR g ti te cap σ Q)
section
variable {X : Cx} {N' : List Str} {cap : List (Option Nat)} {scope : Scope} {elt tg iter : Expr} {ifs : List Expr} {pos : Pos} {g : TG} {ti : TT} {te : TE}
theorem comp_block {pins : List (Addr × Obj)} {σ : St} {H : Hp} {s₂ : Shared} {J : It} {fp : List Addr} {it : Addr} {tn : Nat → Heap → Prop} {E : Value → Shared → Prop} {n : Nat} {Pv : Nat → List V → Hp → Prop} {Fin : List V → Hp → Prop}
    {RR : Value → Addr → Result → Shared → Prop}
    (cp : CapOk X.N N' cap X.env.scope scope) (hc : X.calm = true)
    (hg : ∀ cl C s₂ H₂ fp pins, PG (X.comp N' scope cl C s₂ H₂ fp pins) tg g) (hi : ∀ cl C s₂ H₂ fp pins, PIfs (X.comp N' scope cl C s₂ H₂ fp pins) ifs ti) (he : ∀ cl C s₂ H₂ fp pins, PE (X.comp N' scope cl C s₂ H₂ fp pins) elt te)
    (hk : GK g cap) (I : Inv X pins σ H s₂) (T : Turn X.prog X.w X.K tg J fp it tn) (st : tn 0 s₂.heap) (hf : ∀ b ∈ fp, FpOk X pins H b)
    (hn : n ≤ sizeLine) (h0 : Pv 0 [] H)
    (turn : ∀ i ys H2, i < n → Pv i ys H2 → J.go i H2 ∧ ∀ x H3, J.yld i H2 x H3 → g x (capS cap σ) H3 fun σ4 H4 => ti σ4 H4 fun b H5 => if b = true then te σ4 H5 fun y H6 => Pv (i + 1) (ys ++ [y]) H6 else Pv (i + 1) ys H5)
    (fin : ∀ ys H2, Pv n ys H2 → J.stop n H2 ∧ Fin ys H2)
    (hRR : ∀ D C ys H' s', Inv X pins σ (upd H' D (.lst ys)) s' → H' D = none → (∃ m, s'.heap.Ns C m) → FpOk X pins (upd H' D (.lst ys)) C → Fin ys H' → RR (.ref D) C (.ok .next) s') :
    wpAny (model X.prog X.w) X.A (newList []) (fun acc s₃ => wpAny (model X.prog X.w) X.A (newFunctionEnv scope X.env.globals (clOf X.env scope.names []) [] X.env.qual none .none (some X.env)) (fun cenv s₄ =>
      codeAny (model X.prog X.w) X.A (.compStart (.ListComp elt [⟨tg, iter, ifs, 0⟩] scope pos) 0 (.ref it) acc { cenv with scope := relabel scope X.env }) (RR acc cenv.locals) s₄) E s₃) E s₂ := by
  refine wpAny_newObj_type (wpAny_newFunctionEnv cp.nocell (by intro y hy; simp at hy) (fun h₁ hns₁ hsb₁ => ?_) cp.2.1)
  dsimp only at hns₁ hsb₁ ⊢
  generalize hH2 : s₂.heap.push { cls := .type "list", dict := none, data := .seq ([] : List Value).toArray } = B2 at hns₁ hsb₁ ⊢
  have hC : B2.objs.size = s₂.heap.objs.size + 1 := by rw [← hH2, Heap.size_push]
  have hDC : s₂.heap.objs.size ≠ B2.objs.size := by rw [hC]; exact Nat.ne_of_lt (Nat.lt_succ_self _)
  have hCle : s₂.heap.objs.size ≤ B2.objs.size := by rw [hC]; exact Nat.le_succ _
  have below : ∀ b, b < s₂.heap.objs.size → b ≠ B2.objs.size ∧ b ≠ s₂.heap.objs.size := fun b hb => ⟨by rw [hC]; exact Nat.ne_of_lt (Nat.lt_succ_of_lt hb), Nat.ne_of_lt hb⟩
  have old : ∀ b o, s₂.heap.get? b = some o → h₁.get? b = some o := fun b o e => hsb₁.extBut b o (below b (Heap.lt_size e)).1 (Heap.get?_push_of_some _ (hH2 ▸ Heap.get?_push_of_some _ e))
  have hacc : h₁.get? s₂.heap.objs.size = some { cls := .type "list", data := .seq ([] : List Value).toArray } := hsb₁.extBut _ _ hDC (Heap.get?_push_of_some _ (hH2 ▸ Heap.get?_push_size _ rfl))
  have hfp : ∀ b ∈ fp, b < s₂.heap.objs.size := fun b hb => by
    obtain ⟨o, e, _⟩ := T.obj 0 s₂.heap st b hb
    exact Heap.lt_size e
  generalize hX' : X.comp N' scope (clOf X.env scope.names []) B2.objs.size s₂ H fp pins = X'
  have hD : FpOk X pins H s₂.heap.objs.size := I.fpOk (Nat.le_refl _) I.fresh
  have okX : X'.Ok := hX' ▸ I.compOk cp hf hfp hCle
  have stkNe : ∀ b, b ≠ X.env.locals → b ∉ X.fs → b ∉ frs X.stack := fun b h1 h2 z => by
    rcases List.mem_cons.mp (I.stkSub b z) with q | q
    · exact h1 q
    · exact h2 q
  -- the iterator's objects, in the block
  have fpX : ∀ {H' : Hp} {oD : Obj}, (∀ b ∈ fp, H' b = none) → ∀ b ∈ fp, FpOk X' [(s₂.heap.objs.size, oD)] H' b := fun {H' oD} hn' b hb => by
    subst hX'
    obtain ⟨_, f1, f2, f3, f4, f5⟩ := hf b hb
    refine ⟨hn' b hb, Nat.ne_of_lt (Nat.lt_of_lt_of_le (hfp b hb) hCle), stkNe b f1 f2, .inl hb, fun x c e => f4 x c (clOf_sub0 e), fun p hp => ?_⟩
    rcases List.mem_append.mp hp with hp | hp
    · exact f5 p hp
    · have e : p = (s₂.heap.objs.size, oD) := by simpa using hp
      subst e
      exact Nat.ne_of_gt (hfp b hb)
  -- the block's start
  have I0 : Inv X' [(s₂.heap.objs.size, { cls := .type "list", data := .seq ([] : List Value).toArray })] (capS cap σ) H { s₂ with heap := h₁, toks := s₂.toks + ([] : List (Str × Value)).length } := by
    subst hX'
    refine ⟨okX, rfl, I.bare, Un.kept old, ⟨_, hns₁, fun i x v e1 e2 e3 => ?_⟩, fun x c e => ?_, I.hok.fresh hCle, fun x c e => I.freeC x c (clOf_sub0 e), fun p hp => ?_, I.hok.kept old, ?_⟩
    · have hi' : cap[i]? ≠ none := fun z => by
        unfold capS at e2
        rw [List.getElem?_map, z] at e2
        cases e2
      obtain ⟨o, ho⟩ := Option.ne_none_iff_exists'.mp hi'
      unfold capS at e2
      rw [List.getElem?_map, ho] at e2
      cases o with
      | none => cases e2
      | some j =>
        have e2' : σ[j]? = some (some v) := by
          have q : (σ[j]?).getD none = some v := Option.some.inj e2
          cases z : σ[j]? with
          | none => rw [z] at q; cases q
          | some y => rw [z] at q; rw [show y = some v from q]
        have hz : (some j, x) ∈ cap.zip N' := List.mem_iff_getElem?.mpr ⟨i, by rw [List.getElem?_zip_eq_some]; exact ⟨ho, e1⟩⟩
        obtain ⟨n1, n2⟩ := cp.2.2.2 _ hz j (by simp)
        have n3 := (cp.2.2.1 _ (PySem.mem_of_lookup n2)).2.2 rfl
        obtain ⟨m, hm, hl⟩ := I.loc
        obtain ⟨u, r, l⟩ := hl j x v n1 e2' (n3.elim (fun z => .inr (.inl z)) fun z => .inr (.inr z))
        refine ⟨u, r, .inr ⟨relab_of n2, ?_⟩⟩
        rcases l with ⟨k, _⟩ | ⟨_, c, ec, z⟩
        · have k' : X.env.scope.names.lookup x = some .local := k
          rcases n3 with z | z
          · rw [z] at k'; cases k'
          · rw [z] at k'; cases k'
        · obtain ⟨c', e'⟩ := clOf_has (env := X.env) (acc := []) (PySem.mem_of_lookup n2) ⟨c, ec⟩
          have q := clOf_sub0 e'
          rw [ec] at q
          cases q
          obtain ⟨oc, hoc, hd⟩ := z
          exact ⟨c, e', oc, old _ _ hoc, hd⟩
    · obtain ⟨v, oc, hoc, hd⟩ := I.cell x c (clOf_sub0 e)
      exact ⟨v, oc, old _ _ hoc, hd⟩
    · rcases List.mem_append.mp hp with hp | hp
      · obtain ⟨q1, q2, q3, q4, q5⟩ := I.pin p hp
        exact ⟨old _ _ q1, q2, (below _ (Heap.lt_size q1)).1, stkNe _ q3 q4, q5⟩
      · have e : p = (s₂.heap.objs.size, { cls := .type "list", data := .seq ([] : List Value).toArray }) := by simpa using hp
        subst e
        exact ⟨hacc, hD.1, hDC, stkNe _ hD.2.1 hD.2.2.1, fun v z => by cases z⟩
    · unfold capS
      rw [List.length_map]
      exact cp.1.symm
  have hst₁ : tn 0 h₁ := T.keep 0 s₂.heap h₁ st fun b _ o e => old b o e
  have eX : X'.env = compEnvC scope (clOf X.env scope.names []) B2.objs.size X.env := by subst hX'; rfl
  have hg' : PG X' tg g := hX' ▸ hg _ _ _ _ _ _
  have hi' : PIfs X' ifs ti := hX' ▸ hi _ _ _ _ _ _
  have he' : PE X' elt te := hX' ▸ he _ _ _ _ _ _
  have eP : X'.prog = X.prog := by subst hX'; rfl
  have eW : X'.w = X.w := by subst hX'; rfl
  have eK : X'.K = X.K := by subst hX'; rfl
  have eA : X'.A = X.A := by subst hX'; rfl
  have eC : X'.calm = true := by subst hX'; exact hc
  have eE : X'.xe = fun _ _ => False := by subst hX'; rfl
  have eL : X'.env.locals = B2.objs.size := by subst hX'; rfl
  have eFs : X'.fs = frs X.stack := by subst hX'; rfl
  have eEx : X'.ex = fp := by subst hX'; rfl
  have eH : X'.H₀ = H := by subst hX'; rfl
  have eS : X'.s₀ = s₂ := by subst hX'; rfl
  -- the end: back to the frame around
  have back : ∀ {σ' : St} {H' : Hp} {s' : Shared} {ys : List V} {its : List Value} {k : Nat}, Inv X' [(s₂.heap.objs.size, { cls := .type "list", data := .seq its.toArray k })] σ' H' s' → Vals ys its → ys.length ≤ sizeLine → Fin ys H' → RR (.ref s₂.heap.objs.size) B2.objs.size (.ok .next) s' := by
    intro σ' H' s' ys its k I' rv hz hF
    have os : s'.os = s₂.os := by rw [I'.os, eS]
    have un : Un (frs X.stack) fp H H' s₂.heap s'.heap := by
      have q := I'.base
      rw [eFs, eEx, eH, eS] at q
      exact q
    have hok : HOk X.prog X.w H' s'.heap := by
      have q := I'.hok
      rw [eP, eW] at q
      exact q
    have J1 : Inv X pins σ H' s' := I.call' os un hok I'.bare fun b hb => ⟨(hf b hb).2.2.2.1, (hf b hb).2.1, (hf b hb).2.2.2.2.1, (hf b hb).2.2.2.2.2⟩
    obtain ⟨p1, p2, _⟩ := I'.pin (s₂.heap.objs.size, { cls := .type "list", data := .seq its.toArray k }) (by simp)
    have fD : FpOk X pins H' s₂.heap.objs.size := I.fpOk (Nat.le_refl _) p2
    have J2 : Inv X pins σ (upd H' s₂.heap.objs.size (.lst ys)) s' := J1.track fD p1 rv hz
    obtain ⟨m, hm, _⟩ := I'.loc
    rw [eL] at hm
    have hfr := I'.free
    rw [eL] at hfr
    exact hRR _ _ ys H' s' J2 p2 ⟨m, hm⟩ (I.fpOk hCle (by rw [upd_ne (Ne.symm hDC)]; exact hfr)) hF
  have loop : ∀ s₃ : Shared, s₃ = { s₂ with heap := h₁, toks := s₂.toks + ([] : List (Str × Value)).length } →
      codeAny (model X.prog X.w) X.A (.compLoop (.ListComp elt [⟨tg, iter, ifs, 0⟩] scope pos) 0 (.ref it) (.ref s₂.heap.objs.size) (compEnvC scope (clOf X.env scope.names []) B2.objs.size X.env)) (RR (.ref s₂.heap.objs.size) B2.objs.size) s₃ := by
    intro s₃ e₃
    rw [← eX, ← eP, ← eW, ← eA]
    rw [← eP, ← eW, ← eK] at T
    refine comp_loop (fun k s' => ∃ i ys its c H', k = n - i ∧ i ≤ n ∧ Inv X' [(s₂.heap.objs.size, { cls := .type "list", data := .seq its.toArray c })] (capS cap σ) H' s' ∧ Vals ys its ∧ ys.length ≤ i ∧ tn i s'.heap ∧ (∀ b ∈ fp, H' b = none) ∧ Pv i ys H') ?_ n
      (e₃ ▸ ⟨0, [], [], 0, H, rfl, Nat.zero_le _, I0, .nil, Nat.le_refl _, hst₁, fun b hb => (hf b hb).1, h0⟩)
    rintro k s' ⟨i, ys, its, c, H', rfl, hin, I', rv, hy, st', fr', pv⟩
    have noE : ∀ {α : Type} {t : Sem α} {Q : α → Shared → Prop} {s : Shared} {E' : Value → Shared → Prop}, wpAny (model X'.prog X'.w) X'.A t Q X'.xe s → wpAny (model X'.prog X'.w) X'.A t Q E' s := fun h => wpAny_mono h (fun _ _ q => q) fun e s z => by
      rw [eE] at z
      exact z.elim
    by_cases hlt : i < n
    · obtain ⟨go, step⟩ := turn i ys H' hlt pv
      refine thn (T.item X' rfl rfl rfl eC i _ s' (capS cap σ) H' _ I' (fpX fr') st' go) fun r s4 ⟨u, hr, h4⟩ => ?_
      subst hr
      refine thn h4 fun _ s5 ⟨x, H5, I5, r5, y5, st5, fr5⟩ => ?_
      have I5' := I5.pinned (fpX fr5) (T.obj _ _ st5)
      refine noE (thn (hg' _ s5 _ H5 x u _ I5' r5 (hk σ x H5 _ (step x H5 y5))) fun _ s6 ⟨σ6, H6, I6, ex6, q6⟩ => ?_)
      refine noE (thn (hi' _ s6 σ6 H6 _ I6 q6) fun b s7 ⟨H7, I7, q7⟩ => ?_)
      have again : ∀ {ys' : List V} {its' : List Value} {c' : Nat} {H8 : Hp} {s8 : Shared}, Inv X' ([(s₂.heap.objs.size, { cls := .type "list", data := .seq its'.toArray c' })] ++ pinsAt fp s5.heap) σ6 H8 s8 → Vals ys' its' → ys'.length ≤ i + 1 → Pv (i + 1) ys' H8 →
          ∃ m, m < n - i ∧ ∃ i ys its c H', m = n - i ∧ i ≤ n ∧ Inv X' [(s₂.heap.objs.size, { cls := .type "list", data := .seq its.toArray c })] (capS cap σ) H' s8 ∧ Vals ys its ∧ ys.length ≤ i ∧ tn i s8.heap ∧ (∀ b ∈ fp, H' b = none) ∧ Pv i ys H' := by
        intro ys' its' c' H8 s8 I8 rv8 hy8 pv8
        refine ⟨n - (i + 1), by omega, i + 1, ys', its', c', H8, rfl, hlt, I8.unpinned.weak ex6.1.symm ex6.2, rv8, hy8, T.keep _ _ _ st5 fun b hb o e => (I8.pin (b, o) (List.mem_append_right _ (List.mem_append_right _ (mem_pinsAt hb e)))).1, fun b hb => ?_, pv8⟩
        obtain ⟨o, e, d⟩ := T.obj _ _ st5 b hb
        exact (I8.pin (b, o) (List.mem_append_right _ (List.mem_append_right _ (mem_pinsAt hb e)))).2.1
      cases b with
      | false => exact again I7 rv (Nat.le_succ_of_le hy) q7
      | true =>
        refine noE (thn (he' _ s7 σ6 H7 _ I7 q7) fun v s8 ⟨y, H8, I8, r8, q8⟩ => ?_)
        obtain ⟨p1, p2, p3, p4, p5⟩ := I8.pin (s₂.heap.objs.size, { cls := .type "list", data := .seq its.toArray c }) (by simp)
        have hl := rv.length
        refine wpAny_list_append_plain (hsz := by rw [List.size_toArray]; omega) ⟨c, p1⟩ fun h9 hl9 hs9 => ?_
        obtain ⟨c9, e9⟩ := hl9
        have e9' : h9.get? s₂.heap.objs.size = some { cls := .type "list", data := .seq (its ++ [v]).toArray c9 } := by
          rw [e9]
          simp
        have I9 : Inv X' (pinsAt fp s5.heap) σ6 H8 { s8 with heap := h9 } := by
          have J8 : Inv X' (pinsAt fp s5.heap) σ6 H8 s8 := I8.pins_of fun p hp => I8.pin p (List.mem_append_right _ (List.mem_append_right _ hp))
          refine J8.turned (it := s₂.heap.objs.size) (t' := s8.toks) (fun b o hb e => hs9.extBut b o hb e) p2 p3 (.inr (by rw [eS]; exact Nat.le_refl _)) (fun x c e z => ?_) fun p hp z => ?_
          · obtain ⟨v', oc, hoc, hd⟩ := I8.cell x c e
            rw [z, p1] at hoc
            cases hoc
            cases hd
          · rcases List.mem_append.mp hp with hp | hp
            · have q : p ∈ X.pn ++ pins := by
                subst hX'
                exact hp
              exact hD.2.2.2.2.2 p q z
            · obtain ⟨q1, q2⟩ := of_pinsAt hp
              have lt := hfp _ q1
              rw [z] at lt
              exact Nat.lt_irrefl _ lt
        refine again (ys' := ys ++ [y]) (its' := its ++ [v]) (c' := c9) (I9.pins_of fun p hp => ?_) (rv.append (.cons r8 .nil)) (by rw [List.length_append, List.length_singleton]; omega) q8
        rcases List.mem_append.mp hp with hp | hp
        · have e : p = (s₂.heap.objs.size, { cls := .type "list", data := .seq (its ++ [v]).toArray c9 }) := by simpa using hp
          subst e
          exact ⟨e9', p2, p3, p4, fun v z => by cases z⟩
        · exact I9.pin p (List.mem_append_right _ hp)
    · have ein : i = n := by omega
      subst ein
      obtain ⟨stop, hF⟩ := fin ys H' pv
      refine thn (T.done X' rfl rfl rfl eC i _ s' (capS cap σ) H' _ I' (fpX fr') st' stop) fun r s4 ⟨hr, I4⟩ => ?_
      subst hr
      exact back I4 rv (Nat.le_trans hy hn) hF
  exact codeAny_compStart_list (loop _ rfl) (T.self X.A 0 _ _ _ hst₁ (loop _ rfl))
theorem pe_comp {wi : TI} (cp : CapOk X.N N' cap X.env.scope scope) (hc : X.calm = true) (hi : PI X tg iter wi)
    (hg : ∀ cl C s₂ H₂ fp pins, PG (X.comp N' scope cl C s₂ H₂ fp pins) tg g) (ht : ∀ cl C s₂ H₂ fp pins, PIfs (X.comp N' scope cl C s₂ H₂ fp pins) ifs ti) (he : ∀ cl C s₂ H₂ fp pins, PE (X.comp N' scope cl C s₂ H₂ fp pins) elt te)
    (hk : GK g cap) (hs : ∀ x, foldedSetIterable iter X.env x = pure x := by intro _; rfl) : PE X (.ListComp elt [⟨tg, iter, ifs, 0⟩] scope pos) (tComp wi g ti te cap) := by
  intro pins s σ H Q I h
  rw [eval_ListComp]
  refine wpAny_comprehension_free (use := none) rfl hs (clo_eq (I.cellsFor cp)) cp.2.1 cp.loc (thn (hi pins s σ H _ I h) fun v s1 h1 => thn h1 fun itv s2 h2 => ?_)
  obtain ⟨it, fp, tn, J, H2, e, I2, T, st2, f2, n, Pv, hn, p0, turn, fin⟩ := h2
  subst e
  refine comp_block (RR := fun acc C => compPost (model X.prog X.w) X.A X.xe none (EP X pins σ Q) acc C) cp hc hg ht he hk I2 T st2 f2 hn p0 turn (Fin := fun ys H2 => ∀ D, H2 D = none → Q (.ref D) (upd H2 D (.lst ys))) fin ?_
  rintro D C ys H' s' J1 hD ⟨m, hm⟩ hC hF
  refine ⟨m, hm, fun h' hs' => ⟨.ref D, _, J1.turned (t' := s'.toks) (fun b o hb e => hs'.extBut b o hb e) hC.1 hC.2.1 hC.2.2.2.1 hC.2.2.2.2.1 hC.2.2.2.2.2, rfl, hF D hD⟩⟩
theorem ps_setComp {wi : TI} {i : Nat} {y : Str} {py spos : Pos} (hN : X.N.Nodup) (hi' : X.N[i]? = some y) (hy : X.env.scope.names.lookup y = some .local)
    (cp : CapOk X.N N' cap X.env.scope scope) (hc : X.calm = true) (hi : PI X tg iter wi)
    (hg : ∀ cl C s₂ H₂ fp pins, PG (X.comp N' scope cl C s₂ H₂ fp pins) tg g) (ht : ∀ cl C s₂ H₂ fp pins, PIfs (X.comp N' scope cl C s₂ H₂ fp pins) ifs ti) (he : ∀ cl C s₂ H₂ fp pins, PE (X.comp N' scope cl C s₂ H₂ fp pins) elt te)
    (hk : GK g cap) (hsw : swapsWith (.ListComp elt [⟨tg, iter, ifs, 0⟩] scope pos) (some (.Name y py)) spos.line X.env = pure true := by rfl) (hs : ∀ x, foldedSetIterable iter X.env x = pure x := by intro _; rfl) :
    PS X (.Assign [.Name y py] (.ListComp elt [⟨tg, iter, ifs, 0⟩] scope pos) spos) (tAsg (tComp wi g ti te cap) (gName i)) := by
  intro pins s σ H Dd I h
  rw [exec_Assign_Name_used _ _ _ _ hsw]
  refine wpAny_bind (wpAny_standAt (wpAny_bind ?_))
  show wpAny _ X.A (do let _ ← comprehension (.ListComp elt [⟨tg, iter, ifs, 0⟩] scope pos) scope X.env _ (newList []) false (eval iter X.env) (some (assign (.Name y py) X.env))) _ _ s
  refine wpAny_bind (wpAny_mono (wpAny_comprehension_free (use := some (assign (.Name y py) X.env)) (Q := fun _ s' => SP X pins Dd .next s') rfl hs (clo_eq (I.cellsFor cp)) cp.2.1 cp.loc
    (thn (hi pins s σ H _ I h) fun v s1 h1 => thn h1 fun itv s2 h2 => ?_)) (fun _ s' hq => wpAny_pure (wpAny_pure hq)) fun _ _ e => e)
  obtain ⟨it, fp, tn, J, H2, e, I2, T, st2, f2, n, Pv, hn, p0, turn, fin⟩ := h2
  subst e
  refine comp_block (RR := fun acc C => compPost (model X.prog X.w) X.A X.xe (some (assign (.Name y py) X.env)) (fun _ s' => SP X pins Dd .next s') acc C) cp hc hg ht he hk I2 T st2 f2 hn p0 turn
    (Fin := fun ys H2 => ∀ D, H2 D = none → Dd.nx (σ.set i (some (.ref D))) (upd H2 D (.lst ys))) fin ?_
  rintro D C ys H' s' J1 hD ⟨m, hm⟩ hC hF
  show wpAny _ X.A (assign (.Name y py) X.env (.ref D)) _ _ _
  refine wpAny_assign_Name (store_ok2 J1 hN hi' (.inl hy) (v := .ref D) rfl (fun s'' J2 ⟨a, hs2, ha⟩ => ?_) (.inr hy))
  have hCa : C ≠ a := by
    rcases ha with ha | ha
    · rw [ha]; exact hC.2.1
    · exact fun z => hC.2.2.2.2.1 y a ha z.symm
  refine ⟨m, hm.sameBut hs2 hCa, fun h3 hs3 => ⟨_, _, J2.turned (t' := s''.toks) (fun b o hb e => hs3.extBut b o hb e) hC.1 hC.2.1 hC.2.2.2.1 hC.2.2.2.2.1 hC.2.2.2.2.2, hF D hD⟩⟩
end
end L2
namespace ZT
open PySem PySem.Spec PyProof.Rows
open Sem (wp)
section
variable {prog : Program} {w : World} {A : Around} {E : Value → Shared → Prop} {s : Shared}
theorem next_item {it t : Addr} {i : Nat} {items : Array Value} {x : Value} {Q : Value → Shared → Prop} (hit : s.heap.IsTupleIter it t i) (ht : s.heap.IsTuple t items) (hx : items[i]? = some x)
    (hQ : ∀ h', h'.IsTupleIter it t (i + 1) → Heap.SameBut it s.heap h' → Q x { s with heap := h' }) : wpAny (model prog w) A (Builtin.SmallTypes.nextOf (.ref it)) Q E s := by
  obtain ⟨o, ho, hc, hd⟩ := id hit
  obtain ⟨ot, hot, _, nt, hdt⟩ := ht
  unfold Builtin.SmallTypes.nextOf
  refine wpAny_bind (wpAny_callSpecial?_slot (name := Str.ofString "__next__") hit.typeIs F.slot_tuple_iterator_next (wpAny_call_entry F.slot_tuple_iterator_next hit.typeIs F.entry_tuple_iterator_next ?_ (F.args_tuple_iterator_next_1 _)))
  show wpAny _ _ (field (.ref it) 0 >>= _) _ _ s; refine wpAny_bind (wpAny_field ho hd (x := .ref t) rfl ?_)
  show wpAny _ _ (if (Value.ref t == Value.none) = true then _ else _) _ _ s; rw [if_neg (show ¬ ((Value.ref t == Value.none) = true) from Bool.false_ne_true)]
  show wpAny _ _ (field (.ref it) 1 >>= _) _ _ s; refine wpAny_bind (wpAny_field ho hd (x := .int i 0) rfl ?_)
  show wpAny _ _ (seqItems? (.ref t) >>= _) _ _ s; refine wpAny_bind (wpAny_seqItems hot hdt ?_)
  simp only [Int.toNat_natCast, hx]
  refine wpAny_bind (wpAny_setField ho hd (by simp) (wpAny_pure ⟨x, rfl, wpAny_pure (hQ _ ⟨_, Heap.get?_update_self _ ho (Obj.isFreed_of_fields (Obj.data_mapFields hd _)), (Obj.cls_mapFields ..).trans hc, ?_⟩ (Heap.SameBut.update ..))⟩))
  rw [Obj.data_mapFields hd]; simp [rawInt]
theorem next_end {it t : Addr} {i : Nat} {items : Array Value} {Q : Value → Shared → Prop} (hh : A.handled = none) (hit : s.heap.IsTupleIter it t i) (ht : s.heap.IsTuple t items) (hx : items[i]? = none)
    (hE : ∀ h' e, Heap.ExtBut it s.heap h' → (∃ o, h'.get? e = some o ∧ o.cls = .type "StopIteration") → E (.ref e) { s with heap := h' }) : wpAny (model prog w) A (Builtin.SmallTypes.nextOf (.ref it)) Q E s := by
  obtain ⟨o, ho, hc, hd⟩ := id hit
  obtain ⟨ot, hot, _, nt, hdt⟩ := ht
  unfold Builtin.SmallTypes.nextOf
  refine wpAny_bind (wpAny_callSpecial?_slot (name := Str.ofString "__next__") hit.typeIs F.slot_tuple_iterator_next (wpAny_call_entry F.slot_tuple_iterator_next hit.typeIs F.entry_tuple_iterator_next ?_ (F.args_tuple_iterator_next_1 _)))
  show wpAny _ _ (field (.ref it) 0 >>= _) _ _ s; refine wpAny_bind (wpAny_field ho hd (x := .ref t) rfl ?_)
  show wpAny _ _ (if (Value.ref t == Value.none) = true then _ else _) _ _ s; rw [if_neg (show ¬ ((Value.ref t == Value.none) = true) from Bool.false_ne_true)]
  show wpAny _ _ (field (.ref it) 1 >>= _) _ _ s; refine wpAny_bind (wpAny_field ho hd (x := .int i 0) rfl ?_)
  show wpAny _ _ (seqItems? (.ref t) >>= _) _ _ s; refine wpAny_bind (wpAny_seqItems hot hdt ?_)
  simp only [Int.toNat_natCast, hx]
  refine wpAny_bind (wpAny_rule (wpAny_bind (wpAny_setField ho hd (by simp) ?_)))
  show wpAny _ _ (newExc (.type "StopIteration") [] >>= _) _ _ _; refine wpAny_bind ?_
  simp only [newExc, newTuple]; refine wpAny_bind (wpAny_newObj_type ?_ (by size_fits))
  refine wpAny_bind (m := firstArgMember _ _) (wpAny_of_eq (a := Value.none) (by first | rfl | (simp only [firstArgMember]; rfl)) ?_); refine wpAny_newObj_type ?_ (by size_fits)
  simp only [raiseNew]; refine wpAny_bind (wpAny_handled ?_)
  first | rw [show A.in1.handled = none from hh] | rw [hh]
  refine wpAny_bind (wpAny_pure (wpAny_throw ?_))
  exact hE _ _ (((Heap.SameBut.update ..).extBut.push _).push _) ⟨_, Heap.get?_push_size _ rfl, rfl⟩
structure ZAt (h : Heap) (z TI TO i1 i2 t1 t2 : Addr) (f0 : Value) (k : Nat) : Prop where
  hz : IsZip h z TI TO f0
  hTI : IsPair h TI (.ref i1) (.ref i2)
  hTO : ∃ a b, IsPair h TO a b
  h1 : h.IsTupleIter i1 t1 k
  h2 : h.IsTupleIter i2 t2 k
theorem item {z TI TO i1 i2 t1 t2 : Addr} {k : Nat} {xs ys : Array Value} {x y : Value} {Q : Option Value → Shared → Prop} (D : ZipApart z TI TO i1 i2 t1 t2)
    (Z : ZAt s.heap z TI TO i1 i2 t1 t2 .none k) (hl1 : s.heap.IsTuple t1 xs) (hl2 : s.heap.IsTuple t2 ys) (hx : xs[k]? = some x) (hy : ys[k]? = some y)
    (hQ : ∀ h', ZAt h' z TI TO i1 i2 t1 t2 (rawInt s.heap.objs.size) (k + 1) → IsPair h' s.heap.objs.size x y →
      (∀ c o, c ≠ z → c ≠ TO → c ≠ i1 → c ≠ i2 → s.heap.get? c = some o → h'.get? c = some o) → Q (some (.ref s.heap.objs.size)) { s with heap := h' }) :
    wpAny (model prog w) A (pyNext (.ref z)) Q E s := by
  obtain ⟨hz, hTI, ⟨a, b, hTO⟩, h1, h2⟩ := Z
  have hT : s.TypeIs (.ref z) "zip" := ⟨_, hz, rfl⟩
  unfold pyNext
  refine wpAny_bind (wpAny_attempt (wpAny_callSpecial?_slot (name := Str.ofString "__next__") hT F.slot_zip_next (wpAny_call_entry F.slot_zip_next hT F.entry_zip_next ?_ (F.args_zip_next_1 _))))
  show wpAny _ _ (field (.ref z) 2 >>= _) _ _ _; refine wpAny_bind (wpAny_field hz rfl (x := .bool false) rfl ?_)
  show wpAny _ _ (field (.ref z) 3 >>= _) _ _ _; refine wpAny_bind (wpAny_field hz rfl (x := .ref TI) rfl ?_)
  refine wpAny_bind (wpAny_seqItems hTI rfl ?_); show wpAny _ _ (Builtin.SmallTypes.ownedTupleIsFree (.ref z) >>= _) _ _ _
  refine wpAny_bind ?_; unfold Builtin.SmallTypes.ownedTupleIsFree
  refine wpAny_bind (wpAny_field hz rfl (x := .none) rfl (wpAny_pure ?_)); simp only [if_true]
  refine wpAny_bind (wpAny_rule ?_); refine wpAny_bind (wpAny_field hz rfl (x := .ref TO) rfl ?_)
  refine wpAny_bind (wpAny_setField_rec hz (by simp) fun g1 hz1 e1 => ?_)
  replace hz1 : IsZip g1 z TI TO .ellipsis := hz1
  refine wpAny_bind ?_; simp only [List.zipIdx_cons, List.zipIdx_nil, List.forIn_cons, List.forIn_nil]
  refine wpAny_bind (wpAny_bind (wpAny_onRaise ?_)); show wpAny _ _ (Builtin.SmallTypes.nextOf (.ref i1) >>= _) _ _ _
  refine wpAny_bind (next_item (h1.extBut e1.extBut D.i1z) (hl1.extBut e1.extBut D.l1z) hx fun g2 h12 e2 => wpAny_pure ?_)
  have o2 : IsPair g2 TO a b := e2.extBut _ _ D.TOi1 (e1.extBut _ _ D.TOz hTO)
  refine wpAny_bind (wpAny_seqItems o2 rfl ?_); refine wpAny_bind (wpAny_updateSeq_pair o2 fun g3 o3 e3 => ?_)
  replace o3 : IsPair g3 TO x b := o3
  refine wpAny_bind (wpAny_letGo (wpAny_pure ?_)); refine wpAny_bind (wpAny_bind (wpAny_onRaise ?_))
  show wpAny _ _ (Builtin.SmallTypes.nextOf (.ref i2) >>= _) _ _ _
  refine wpAny_bind (next_item (((h2.extBut e1.extBut D.i2z).extBut e2.extBut D.i12.symm).extBut e3.extBut D.TOi2.symm) (((hl2.extBut e1.extBut D.l2z).extBut e2.extBut D.l2i1).extBut e3.extBut D.l2TO) hy fun g4 h24 e4 => wpAny_pure ?_)
  have o4 : IsPair g4 TO x b := e4.extBut _ _ D.TOi2 o3
  refine wpAny_bind (wpAny_seqItems o4 rfl ?_); refine wpAny_bind (wpAny_updateSeq_pair o4 fun g5 o5 e5 => ?_)
  replace o5 : IsPair g5 TO x y := o5
  refine wpAny_bind (wpAny_letGo (wpAny_pure (wpAny_pure ?_))); refine wpAny_bind (wpAny_seqItems o5 rfl ?_); refine wpAny_bind (wpAny_newTuple ?_)
  have sz : g5.objs.size = s.heap.objs.size := by rw [e5.1, e4.1, e3.1, e2.1, e1.1]
  have z5 : IsZip g5 z TI TO .ellipsis := e5.extBut _ _ D.TOz.symm (e4.extBut _ _ D.i2z.symm (e3.extBut _ _ D.TOz.symm (e2.extBut _ _ D.i1z.symm hz1)))
  have k5 : ∀ c o, c ≠ z → c ≠ TO → c ≠ i1 → c ≠ i2 → s.heap.get? c = some o → g5.get? c = some o := fun c o c1 c2 c3 c4 e => e5.extBut _ _ c2 (e4.extBut _ _ c4 (e3.extBut _ _ c2 (e2.extBut _ _ c3 (e1.extBut _ _ c1 e))))
  have h15 : g5.IsTupleIter i1 t1 (k + 1) := ((h12.extBut e3.extBut D.TOi1.symm).extBut e4.extBut D.i12).extBut e5.extBut D.TOi1.symm
  have h25 : g5.IsTupleIter i2 t2 (k + 1) := h24.extBut e5.extBut D.TOi2.symm
  have zlt : z < g5.objs.size := Heap.lt_size z5
  show wpAny _ _ (Builtin.SmallTypes.ownedTupleHandOut (.ref z) (.ref g5.objs.size) >>= _) _ _ _; refine wpAny_bind ?_
  unfold Builtin.SmallTypes.ownedTupleHandOut
  have z6 : IsZip (g5.push { cls := .type "tuple", data := .seq #[x, y] }) z TI TO .ellipsis := Heap.get?_push_of_some _ z5
  refine wpAny_bind (wpAny_setField_rec z6 (by simp) fun g7 z7 e7 => ?_)
  replace z7 : IsZip g7 z TI TO (rawInt g5.objs.size) := z7
  refine wpAny_setField_rec z7 (by simp) fun g8 z8 e8 => ?_
  replace z8 : IsZip g8 z TI TO (rawInt g5.objs.size) := z8
  have up : ∀ c o, c ≠ z → g5.get? c = some o → g8.get? c = some o := fun c o c1 e => e8.extBut _ _ c1 (e7.extBut _ _ c1 (Heap.get?_push_of_some _ e))
  have p8 : IsPair g8 g5.objs.size x y := e8.extBut _ _ (Nat.ne_of_gt zlt) (e7.extBut _ _ (Nat.ne_of_gt zlt) (Heap.get?_push_size _ rfl))
  have hI : IsPair g8 TI (.ref i1) (.ref i2) := up _ _ D.TIz (k5 _ _ D.TIz D.TITO D.TIi1 D.TIi2 hTI)
  have hO : IsPair g8 TO x y := up _ _ D.TOz o5
  rw [sz] at z8 p8
  refine wpAny_pure ⟨_, rfl, ?_⟩
  show wpAny _ _ (pure (some (Value.ref g5.objs.size))) _ _ _
  rw [sz]
  exact wpAny_pure (hQ g8 ⟨z8, hI, ⟨x, y, hO⟩, let ⟨o, q, r⟩ := h15; ⟨o, up _ o D.i1z q, r⟩, let ⟨o, q, r⟩ := h25; ⟨o, up _ o D.i2z q, r⟩⟩ p8 fun c o c1 c2 c3 c4 e => up c o c1 (k5 c o c1 c2 c3 c4 e))
theorem done {z TI TO i1 i2 t1 t2 : Addr} {k : Nat} {xs ys : Array Value} {Q : Option Value → Shared → Prop} (hh : A.handled = none) (D : ZipApart z TI TO i1 i2 t1 t2)
    (Z : ZAt s.heap z TI TO i1 i2 t1 t2 .none k) (hl1 : s.heap.IsTuple t1 xs) (hl2 : s.heap.IsTuple t2 ys) (hend : xs[k]? = none ∨ ys[k]? = none)
    (hQ : ∀ h', (∀ c o, c ≠ z → c ≠ TO → c ≠ i1 → c ≠ i2 → s.heap.get? c = some o → h'.get? c = some o) → Q none { s with heap := h' }) : wpAny (model prog w) A (pyNext (.ref z)) Q E s := by
  obtain ⟨hz, hTI, ⟨a, b, hTO⟩, h1, h2⟩ := Z
  have hT : s.TypeIs (.ref z) "zip" := ⟨_, hz, rfl⟩
  have stop : ∀ (h' : Heap) (e : Addr), (∀ c o, c ≠ z → c ≠ TO → c ≠ i1 → c ≠ i2 → s.heap.get? c = some o → h'.get? c = some o) → (∃ o, h'.get? e = some o ∧ o.cls = .type "StopIteration") →
      wpAny (model prog w) A (do if ← isInstance (.ref e) (.type "StopIteration") then pure none else throw (.ref e)) Q E { s with heap := h' } := fun h' e hk ⟨o, ho, hc⟩ =>
    wpAny_bind (wpAny_isInstance (T := "StopIteration") (b := true) ⟨o, ho, hc⟩ isSubtype_stop (wpAny_pure (hQ _ hk)))
  unfold pyNext
  refine wpAny_bind (wpAny_attempt (wpAny_callSpecial?_slot (name := Str.ofString "__next__") hT F.slot_zip_next (wpAny_call_entry F.slot_zip_next hT F.entry_zip_next ?_ (F.args_zip_next_1 _))))
  show wpAny _ _ (field (.ref z) 2 >>= _) _ _ _; refine wpAny_bind (wpAny_field hz rfl (x := .bool false) rfl ?_)
  show wpAny _ _ (field (.ref z) 3 >>= _) _ _ _; refine wpAny_bind (wpAny_field hz rfl (x := .ref TI) rfl ?_)
  refine wpAny_bind (wpAny_seqItems hTI rfl ?_); show wpAny _ _ (Builtin.SmallTypes.ownedTupleIsFree (.ref z) >>= _) _ _ _
  refine wpAny_bind ?_; unfold Builtin.SmallTypes.ownedTupleIsFree
  refine wpAny_bind (wpAny_field hz rfl (x := .none) rfl (wpAny_pure ?_)); simp only [if_true]
  refine wpAny_bind (wpAny_rule ?_); refine wpAny_bind (wpAny_field hz rfl (x := .ref TO) rfl ?_)
  refine wpAny_bind (wpAny_setField_rec hz (by simp) fun g1 hz1 e1 => ?_)
  replace hz1 : IsZip g1 z TI TO .ellipsis := hz1
  refine wpAny_bind ?_; simp only [List.zipIdx_cons, List.zipIdx_nil, List.forIn_cons, List.forIn_nil]
  refine wpAny_bind (wpAny_bind (wpAny_onRaise ?_)); show wpAny _ _ (Builtin.SmallTypes.nextOf (.ref i1) >>= _) _ _ _
  cases hx : xs[k]? with
  | none =>
    refine wpAny_bind (next_end hh (h1.extBut e1.extBut D.i1z) (hl1.extBut e1.extBut D.l1z) hx fun g2 e x2 ⟨oe, hoe, hce⟩ => ?_)
    have z2 : IsZip g2 z TI TO .ellipsis := x2 _ _ D.i1z.symm hz1
    have ez : e ≠ z := fun q => by subst q; rw [z2] at hoe; cases hoe; simp at hce
    refine wpAny_setField_rec z2 (by simp) fun g3 _ e3 => stop g3 e (fun c o c1 _ c3 _ q => e3.extBut _ _ c1 (x2 _ _ c3 (e1.extBut _ _ c1 q))) ⟨oe, e3.extBut _ _ ez hoe, hce⟩
  | some x =>
    have hy : ys[k]? = none := by rcases hend with q | q; rw [hx] at q; cases q; exact q
    refine wpAny_bind (next_item (h1.extBut e1.extBut D.i1z) (hl1.extBut e1.extBut D.l1z) hx fun g2 h12 e2 => wpAny_pure ?_)
    have o2 : IsPair g2 TO a b := e2.extBut _ _ D.TOi1 (e1.extBut _ _ D.TOz hTO)
    refine wpAny_bind (wpAny_seqItems o2 rfl ?_); refine wpAny_bind (wpAny_updateSeq_pair o2 fun g3 o3 e3 => ?_)
    refine wpAny_bind (wpAny_letGo (wpAny_pure ?_)); refine wpAny_bind (wpAny_bind (wpAny_onRaise ?_))
    show wpAny _ _ (Builtin.SmallTypes.nextOf (.ref i2) >>= _) _ _ _
    refine wpAny_bind (next_end hh (((h2.extBut e1.extBut D.i2z).extBut e2.extBut D.i12.symm).extBut e3.extBut D.TOi2.symm) (((hl2.extBut e1.extBut D.l2z).extBut e2.extBut D.l2i1).extBut e3.extBut D.l2TO) hy fun g4 e x4 ⟨oe, hoe, hce⟩ => ?_)
    have z4 : IsZip g4 z TI TO .ellipsis := x4 _ _ D.i2z.symm (e3.extBut _ _ D.TOz.symm (e2.extBut _ _ D.i1z.symm hz1))
    have ez : e ≠ z := fun q => by subst q; rw [z4] at hoe; cases hoe; simp at hce
    refine wpAny_setField_rec z4 (by simp) fun g5 _ e5 => stop g5 e (fun c o c1 c2 c3 c4 q => e5.extBut _ _ c1 (x4 _ _ c4 (e3.extBut _ _ c2 (e2.extBut _ _ c3 (e1.extBut _ _ c1 q))))) ⟨oe, e5.extBut _ _ ez hoe, hce⟩
end
abbrev h1 (h : Heap) (t1 : Addr) : Heap := h.push { cls := .type "tuple_iterator", data := .fields #[.ref t1, .int 0 0] }
abbrev h2 (h : Heap) (t1 t2 : Addr) : Heap := (h1 h t1).push { cls := .type "tuple_iterator", data := .fields #[.ref t2, .int 0 0] }
abbrev h3 (h : Heap) (t1 t2 : Addr) : Heap := (h2 h t1 t2).push { cls := .type "tuple", data := .seq #[.ref h.objs.size, .ref (h1 h t1).objs.size] }
abbrev h4 (h : Heap) (t1 t2 : Addr) : Heap := (h3 h t1 t2).push { cls := .type "tuple", data := .seq #[.none, .none] }
abbrev h5 (h : Heap) (t1 t2 : Addr) : Heap := (h4 h t1 t2).push { cls := .type "zip", data := .fields #[.none, .bool false, .bool false, .ref (h2 h t1 t2).objs.size, .ref (h3 h t1 t2).objs.size] }
theorem meets_new (t1 t2 : Addr) (xs ys : Array Value) :
    Meets (Builtin.«zip.__new__» ⟨[.type "zip", .ref t1, .ref t2], []⟩) (fun _ R s => s.heap.IsTuple t1 xs ∧ s.heap.IsTuple t2 ys ∧ R (.ok (.ret (.ref (h4 s.heap t1 t2).objs.size))) { s with heap := h5 s.heap t1 t2 }) :=
  .of_wp fun prog w A R s h => by
    obtain ⟨hp, g, d, tk, os⟩ := s; obtain ⟨hl1, hl2, h⟩ := h; have hsub := sub_zip
    have hL1 : Heap.IsTuple (Shared.heap ⟨hp, g, d, tk, os⟩) t1 xs := hl1
    have hL2 : Heap.IsTuple (Shared.heap ⟨hp.push { cls := .type "tuple_iterator", data := .fields #[.ref t1, .int 0 0] }, g, d, tk, os⟩) t2 ys := Heap.IsTuple.push hl2 _
    wp_walk using wpAny_pyIter_tuple hL1, wpAny_pyIter_tuple hL2
    exact ⟨_, rfl, h⟩
section
variable {prog : Program} {w : World} {A : Around} {E : Value → Shared → Prop} {s : Shared}
theorem call_zip {t1 t2 : Addr} {xs ys : Array Value} {Q : Value → Shared → Prop} (hl1 : s.heap.IsTuple t1 xs) (hl2 : s.heap.IsTuple t2 ys)
    (h : ∀ h', ZAt h' (s.heap.objs.size + 4) (s.heap.objs.size + 2) (s.heap.objs.size + 3) s.heap.objs.size (s.heap.objs.size + 1) t1 t2 .none 0 →
      (∀ c o, s.heap.get? c = some o → h'.get? c = some o) → Q (.ref (s.heap.objs.size + 4)) { s with heap := h' }) :
    wpAny (model prog w) A (call (.type "zip") [.ref t1, .ref t2]) Q E s := by
  refine callType_new F.called_zip (by decide) (F.typeCall_zip_2 _ _) (F.newCall_zip_2 _ _) (fun obj => F.args_object_init_3 obj _ _) F.entry_zip_new (meets_new t1 t2 xs ys) ⟨hl1, hl2, ?_⟩
  have z1 : (h1 s.heap t1).objs.size = s.heap.objs.size + 1 := Heap.size_push ..
  have z2 : (h2 s.heap t1 t2).objs.size = s.heap.objs.size + 2 := by rw [Heap.size_push, z1]
  have z3 : (h3 s.heap t1 t2).objs.size = s.heap.objs.size + 3 := by rw [Heap.size_push, z2]
  have z4 : (h4 s.heap t1 t2).objs.size = s.heap.objs.size + 4 := by rw [Heap.size_push, z3]
  have p5 : ∀ {c o}, (h4 s.heap t1 t2).get? c = some o → (h5 s.heap t1 t2).get? c = some o := fun q => Heap.get?_push_of_some _ q
  have p4 : ∀ {c o}, (h3 s.heap t1 t2).get? c = some o → (h5 s.heap t1 t2).get? c = some o := fun q => p5 (Heap.get?_push_of_some _ q)
  have p3 : ∀ {c o}, (h2 s.heap t1 t2).get? c = some o → (h5 s.heap t1 t2).get? c = some o := fun q => p4 (Heap.get?_push_of_some _ q)
  have p2 : ∀ {c o}, (h1 s.heap t1).get? c = some o → (h5 s.heap t1 t2).get? c = some o := fun q => p3 (Heap.get?_push_of_some _ q)
  have q5 : (h5 s.heap t1 t2).get? (h4 s.heap t1 t2).objs.size = some _ := Heap.get?_push_size _ rfl
  have q4 : (h5 s.heap t1 t2).get? (h3 s.heap t1 t2).objs.size = some _ := p5 (Heap.get?_push_size _ rfl)
  have q3 : (h5 s.heap t1 t2).get? (h2 s.heap t1 t2).objs.size = some _ := p4 (Heap.get?_push_size _ rfl)
  have q2 : (h5 s.heap t1 t2).get? (h1 s.heap t1).objs.size = some _ := p3 (Heap.get?_push_size _ rfl)
  have q1 : (h5 s.heap t1 t2).get? s.heap.objs.size = some _ := p2 (Heap.get?_push_size _ rfl)
  show _ ∧ _
  rw [z2, z3, z4] at q5
  rw [z1, z2] at q3
  rw [z3] at q4
  rw [z1] at q2
  rw [z4]
  exact ⟨⟨_, q5, rfl⟩, h _ ⟨q5, q3, ⟨_, _, q4⟩, ⟨_, q1, rfl, rfl⟩, ⟨_, q2, rfl, rfl⟩⟩ fun c o q => p2 (Heap.get?_push_of_some _ q)⟩
end
end ZT
namespace L2
open PySem PySem.Spec PyProof.Rows
def Itz (K : PySem.W.Frag) (t1 t2 : Addr) : It :=
  ⟨fun i H => ∃ xs ys u v, SqT K H t1 xs ∧ SqT K H t2 ys ∧ xs[i]? = some u ∧ ys[i]? = some v,
   fun i H x H' => ∃ T u v, H T = none ∧ x = .ref T ∧ H' = upd H T (.tup [u, v]) ∧ (∀ xs, SqT K H t1 xs → xs[i]? = some u) ∧ ∀ ys, SqT K H t2 ys → ys[i]? = some v,
   fun i H => ∃ xs ys, SqT K H t1 xs ∧ SqT K H t2 ys ∧ (xs.length ≤ i ∨ ys.length ≤ i)⟩
theorem zapart {n t1 t2 : Nat} (h1 : t1 < n) (h2 : t2 < n) : ZipApart (n + 4) (n + 2) (n + 3) n (n + 1) t1 t2 := by
  constructor <;> (intro e; simp only [Addr] at *; omega)
section
variable {X : Cx} {pins : List (Addr × Obj)} {σ : St} {H : Hp} {s : Shared}
theorem Inv.turnedT {ch : List Addr} {h' : Heap} {T : Addr} {xs : List V} {its : List Value} {t' : Nat} (I : Inv X pins σ H s) (hf : ∀ b ∈ ch, FpOk X pins H b) (k : ∀ b o, b ∉ ch → s.heap.get? b = some o → h'.get? b = some o)
    (hT : s.heap.objs.size ≤ T) (e : IsTup h' T its.toArray) (r : Vals xs its) (hz : xs.length ≤ sizeLine) : Inv X pins σ (upd H T (.tup xs)) { s with heap := h', toks := t' } := by
  have hn : H T = none := I.hok.fresh hT
  have ne : ∀ b u, H b = some u → b ≠ T := fun b u q => ne_of_none q hn
  have nc : ∀ b u, H b = some u → b ∉ ch := fun b u q z => by rw [(hf b z).1] at q; cases q
  refine I.step (g' := s.gens) (d' := s.drawn) (ch := ch) (fun b hb => ⟨(hf b hb).2.2.2.1, (hf b hb).2.1, (hf b hb).2.2.2.2.1, (hf b hb).2.2.2.2.2⟩) (fun b o _ _ hc q _ => k b o hc q) (fun b o _ _ hc q _ => ⟨o.slots, k b o hc q⟩) (fun b o _ q n => ?_) (fun b o hc q => ⟨o, k b o hc q⟩)
    (fun b xs q => by rw [upd_ne (ne b _ q)]; exact q) (fun b o u q => by rw [upd_ne (ne b _ q)]; exact q) (fun b ps q => ⟨#[], by rw [upd_ne (ne b _ q), q]; simp⟩) (fun m hm => ?_) (fun b u q => ?_) I.bare
  · rw [upd_ne (Nat.ne_of_lt (Nat.lt_of_lt_of_le (Heap.lt_size q) hT))]
    exact n
  · obtain ⟨o, es, ep, ho, r⟩ := hm
    exact ⟨o, es, ep, k _ o (fun z => (hf _ z).2.1 rfl) ho, r⟩
  · by_cases hb : b = T
    · subst hb
      rw [upd_same] at q
      cases q
      exact ⟨hz, its, r, e⟩
    · rw [upd_ne hb] at q
      refine (I.hok b u q).stay (fun c v hc z => k c v ?_ z) (fun c z => by rw [upd_ne (ne c _ z)]; exact z) fun c xs z => by rw [upd_ne (ne c _ z)]; exact z
      rcases hc with hc | hc
      · rw [hc]; exact nc b u q
      · exact nc c _ hc
theorem Inv.turnedN {ch : List Addr} {h' : Heap} {t' : Nat} (I : Inv X pins σ H s) (hf : ∀ b ∈ ch, FpOk X pins H b) (k : ∀ b o, b ∉ ch → s.heap.get? b = some o → h'.get? b = some o) : Inv X pins σ H { s with heap := h', toks := t' } := by
  have nc : ∀ b u, H b = some u → b ∉ ch := fun b u q z => by rw [(hf b z).1] at q; cases q
  refine I.step (g' := s.gens) (d' := s.drawn) (ch := ch) (fun b hb => ⟨(hf b hb).2.2.2.1, (hf b hb).2.1, (hf b hb).2.2.2.2.1, (hf b hb).2.2.2.2.2⟩) (fun b o _ _ hc q _ => k b o hc q) (fun b o _ _ hc q _ => ⟨o.slots, k b o hc q⟩) (fun b o _ q n => n) (fun b o hc q => ⟨o, k b o hc q⟩)
    (fun b xs q => q) (fun b o u q => q) (fun b ps q => ⟨#[], by rw [q]; simp⟩) (fun m hm => ?_) (fun b u q => ?_) I.bare
  · obtain ⟨o, es, ep, ho, r⟩ := hm
    exact ⟨o, es, ep, k _ o (fun z => (hf _ z).2.1 rfl) ho, r⟩
  · refine (I.hok b u q).stay (fun c v hc z => k c v ?_ z) (fun c z => z) fun c xs z => z
    rcases hc with hc | hc
    · rw [hc]; exact nc b u q
    · exact nc c _ hc
end
theorem turn_zip {P : Program} {w : World} {K : PySem.W.Frag} {elts : List Expr} {x1 : Nat} {ep : Pos} {z TI TO i1 i2 t1 t2 : Addr} (D : ZipApart z TI TO i1 i2 t1 t2) :
    Turn P w K (.Tuple elts x1 ep) (Itz K t1 t2) [z, TI, TO, i1, i2] z (fun i h => ZT.ZAt h z TI TO i1 i2 t1 t2 .none i) where
  mem := by simp
  obj := fun i h Z b hb => by
    simp only [List.mem_cons, List.not_mem_nil, or_false] at hb
    obtain ⟨hz, hTI, ⟨_, _, hTO⟩, ⟨o1, e1, _, d1⟩, ⟨o2, e2, _, d2⟩⟩ := Z
    rcases hb with rfl | rfl | rfl | rfl | rfl
    · exact ⟨_, hz, fun v q => nomatch q⟩
    · exact ⟨_, hTI, fun v q => nomatch q⟩
    · exact ⟨_, hTO, fun v q => nomatch q⟩
    · exact ⟨o1, e1, fun v q => by rw [d1] at q; cases q⟩
    · exact ⟨o2, e2, fun v q => by rw [d2] at q; cases q⟩
  keep := fun i h h' Z k => by
    obtain ⟨hz, hTI, ⟨a, b, hTO⟩, ⟨o1, e1, r1⟩, ⟨o2, e2, r2⟩⟩ := Z
    exact ⟨k z (by simp) _ hz, k TI (by simp) _ hTI, ⟨a, b, k TO (by simp) _ hTO⟩, ⟨o1, k i1 (by simp) _ e1, r1⟩, ⟨o2, k i2 (by simp) _ e2, r2⟩⟩
  item := by
    intro X hP hw hK hc i pins s σ H E I hf Z hg
    subst hP hw hK
    obtain ⟨xs, ys, u, v, q1, q2, hx, hy⟩ := hg
    obtain ⟨us, r1, p1, _⟩ := I.tuple q1
    obtain ⟨vs, r2, p2, _⟩ := I.tuple q2
    obtain ⟨a, ha, ra⟩ := r1.get hx
    obtain ⟨b, hb, rb⟩ := r2.get hy
    refine ZT.item D Z p1 p2 (x := a) (y := b) (by simpa using ha) (by simpa using hb) fun h' Z' pr kk => ⟨_, rfl, ?_⟩
    refine wpAny_letOwnedTupleGo_zip Z'.hz fun h2 hz2 e2 => ?_
    have hzlt : z < s.heap.objs.size := Heap.lt_size Z.hz
    have pr2 : IsPair h2 s.heap.objs.size a b := e2.extBut _ _ (Nat.ne_of_gt hzlt) pr
    have k2 : ∀ c o, c ∉ [z, TI, TO, i1, i2] → s.heap.get? c = some o → h2.get? c = some o := fun c o hc e => by
      simp only [List.mem_cons, List.not_mem_nil, or_false, not_or] at hc
      exact e2.extBut _ _ hc.1 (kk c o hc.1 hc.2.2.1 hc.2.2.2.1 hc.2.2.2.2 e)
    refine ⟨.ref s.heap.objs.size, _, I.turnedT (t' := s.toks) hf k2 (Nat.le_refl _) (its := [a, b]) (xs := [u, v]) ⟨_, pr2, rfl, _, rfl⟩ (.cons ra (.cons rb .nil)) (by show 2 ≤ sizeLine; decide), rfl, ?_, ?_, fun c hc => ?_⟩
    · exact ⟨_, u, v, I.fresh, rfl, rfl, fun zs h => by rw [I.tuple_inj h q1]; exact hx, fun zs h => by rw [I.tuple_inj h q2]; exact hy⟩
    · obtain ⟨hz', hTI', ⟨a', b', hTO'⟩, j1, j2⟩ := Z'
      exact ⟨hz2, e2.extBut _ _ D.TIz hTI', ⟨a', b', e2.extBut _ _ D.TOz hTO'⟩, j1.extBut e2.extBut D.i1z, j2.extBut e2.extBut D.i2z⟩
    · rw [upd_ne ?_]
      · exact (hf c hc).1
      · intro e
        obtain ⟨o, eo, _⟩ : ∃ o, s.heap.get? c = some o ∧ True := by
          simp only [List.mem_cons, List.not_mem_nil, or_false] at hc
          obtain ⟨hz, hTI, ⟨_, _, hTO⟩, ⟨o1, e1, _⟩, ⟨o2, e2, _⟩⟩ := Z
          rcases hc with rfl | rfl | rfl | rfl | rfl
          · exact ⟨_, hz, trivial⟩
          · exact ⟨_, hTI, trivial⟩
          · exact ⟨_, hTO, trivial⟩
          · exact ⟨_, e1, trivial⟩
          · exact ⟨_, e2, trivial⟩
        have := Heap.lt_size eo
        rw [e] at this
        exact Nat.lt_irrefl _ this
  done := by
    intro X hP hw hK hc i pins s σ H E I hf Z hg
    subst hP hw hK
    obtain ⟨xs, ys, q1, q2, hend⟩ := hg
    obtain ⟨us, r1, p1, _⟩ := I.tuple q1
    obtain ⟨vs, r2, p2, _⟩ := I.tuple q2
    have l1 := r1.length
    have l2 := r2.length
    refine ZT.done (I.ok.hd hc) D Z p1 p2 (hend.elim (fun h => .inl (by simp; omega)) fun h => .inr (by simp; omega)) fun h' kk => ⟨rfl, I.turnedN (t' := s.toks) hf fun c o hc e => ?_⟩
    simp only [List.mem_cons, List.not_mem_nil, or_false, not_or] at hc
    exact kk c o hc.1 hc.2.2.1 hc.2.2.2.1 hc.2.2.2.2 e
  self := fun _ _ _ _ _ Z h => wpAny_pyIter_zip Z.hz h
def iZip (K : PySem.W.Frag) (ta : TA) : TI := fun σ H R => ta σ H fun vs H1 => ∃ t1 t2 xs ys, vs = [.ref t1, .ref t2] ∧ SqT K H1 t1 xs ∧ SqT K H1 t2 ys ∧ R (Itz K t1 t2) H1
theorem pi_zip {X : Cx} {elts : List Expr} {x1 : Nat} {ep : Pos} {a b : Expr} {ta : TA} {p pos : Pos} (hg : Gl X "zip") (hm : X.mg "zip" = none) (ha : PA X [a, b] ta) (hs : starEach [a, b] X.env = [(false, eval a X.env), (false, eval b X.env)] := by rfl) (hs2 : starEach [b] X.env = [(false, eval b X.env)] := by rfl) :
    PI X (.Tuple elts x1 ep) (.Call (.Name "zip" p) [a, b] [] pos) (iZip X.K ta) := by
  intro pins s σ H R I h
  refine Call_ (ld_blt I hg hm boot_zip (PyProof.Rows.callWith_type1 (thn (ha pos pins s σ H _ I h) fun us s1 ⟨vs, H1, I1, r1, q1⟩ => ?_) (by rw [hs, hs2]) (by rw [hs2]; rfl)))
  obtain ⟨t1, t2, xs, ys, e, q1, q2, q⟩ := q1
  subst e
  obtain ⟨u, v, rfl, ru, rv⟩ := r1.two
  cases ru
  cases rv
  obtain ⟨us, w1, p1, _⟩ := I1.tuple q1
  obtain ⟨vs, w2, p2, _⟩ := I1.tuple q2
  have lt1 : t1 < s1.heap.objs.size := by obtain ⟨o, e, _⟩ := p1; exact Heap.lt_size e
  have lt2 : t2 < s1.heap.objs.size := by obtain ⟨o, e, _⟩ := p2; exact Heap.lt_size e
  refine ZT.call_zip p1 p2 fun h' Z kk => ?_
  refine wpAny_pyIter_zip Z.hz ?_
  refine ⟨_, [s1.heap.objs.size + 4, s1.heap.objs.size + 2, s1.heap.objs.size + 3, s1.heap.objs.size, s1.heap.objs.size + 1], _, _, H1, rfl, I1.kept (t' := s1.toks) kk, turn_zip (zapart lt1 lt2), Z, fun c hc => ?_, q⟩
  have hle : s1.heap.objs.size ≤ c := by
    simp only [List.mem_cons, List.not_mem_nil, or_false] at hc
    simp only [Addr] at *
    omega
  exact I1.fpOk hle (I1.hok.fresh hle)
end L2
namespace HT
open PySem PyProof.Rows
section
variable {prog : Program} {w : World} {A : Around} {E : Value → Shared → Prop} {s : Shared}
theorem getItem_tuple_all {t sl : Addr} {items : Array Value} {vl vu : Value} {lo hi : Option Int} {Q : Value → Shared → Prop} (ht : IsTup s.heap t items) (hs : s.heap.IsSliceOf sl vl vu .none) (pl : IsPart vl lo) (pu : IsPart vu hi)
    (hw : sIx items.size 0 lo = 0 ∧ sIx items.size items.size hi = items.size) (h : Q (.ref t) s) : wpAny (model prog w) A (getItem (.ref t) (.ref sl)) Q E s := by
  obtain ⟨os, hos, hcs, hds⟩ := id hs
  have hTs : s.TypeIs (.ref sl) "slice" := ⟨os, hos, hcs⟩
  unfold getItem
  try with_reducible refine wpAny_holding ?_
  first | refine wpAny_bind (wpAny_pure ?_) | skip
  refine wpAny_bind (wpAny_sequenceKey ht.typeIs (by decide) ?_)
  refine wpAny_bind (wpAny_callSpecial?_slot (name := Str.ofString "__getitem__") ht.typeIs PyProof.Rows.slot_tuple_getitem
    (wpAny_call_entry PyProof.Rows.slot_tuple_getitem ht.typeIs entry_tuple_getitem ?_ (args_tuple_getitem _ _)))
  show wpAny _ _ (Builtin.Tuple.tupleItemsOf (.ref t) >>= _) _ _ s
  refine wpAny_bind (tupleItemsOf_ ht ?_)
  refine wpAny_bind (wpAny_typeOf hTs ?_)
  rw [if_pos (by decide)]
  refine wpAny_bind (sliceApplied_gen hs pl pu ?_)
  have hyes : (((sIx items.size 0 lo : Nat) : Int) == 0 && (1 : Int) == 1 && (sIx items.size items.size hi - sIx items.size 0 lo) == items.size) = true := by
    rw [hw.1, hw.2]
    simp
  show wpAny _ _ (if (((sIx items.size 0 lo : Nat) : Int) == 0 && (1 : Int) == 1 && (sIx items.size items.size hi - sIx items.size 0 lo) == items.size) = true then _ else _) _ _ s
  rw [if_pos hyes]
  refine wpAny_bind (m := Builtin.Tuple.tupleIsExact _) ?_
  unfold Builtin.Tuple.tupleIsExact
  first
    | (refine wpAny_bind (wpAny_typeOf ht.typeIs ?_); refine wpAny_pure ?_)
    | (refine wpAny_typeOf ht.typeIs ?_)
  rw [if_pos (by decide)]
  refine wpAny_bind (wpAny_rule ?_)
  first
    | exact wpAny_pure ⟨_, rfl, wpAny_pure h⟩
    | exact wpAny_bind (wpAny_pure (wpAny_pure ⟨_, rfl, wpAny_pure h⟩))
end
end HT
namespace RV
open PySem PySem.Spec PyProof.Rows
section
variable {prog : Program} {w : World} {A : Around} {E : Value → Shared → Prop} {s : Shared}
end
end RV
namespace L2
open PySem PySem.Spec PyProof.Rows
section
variable {X : Cx}
def rSlT2 (K : PySem.W.Frag) : V → Option Int → Option Int → Hp → VK → Prop := fun x lo hi H Q => ∃ a xs, x = .ref a ∧ SqT K H a xs ∧ ∀ p H', SqT K H' p (cutV xs lo hi) → (∀ b o, H b = some o → H' b = some o) → Q (.ref p) H'
theorem sl_tup2 : SlR X (rSlT2 X.K) := by
  intro pins s σ H x v vl vu lo hi sl Q I rx hs pl pu h
  obtain ⟨a, xs, rfl, hx, q⟩ := h
  by_cases hw : HT.sIx xs.length 0 lo = 0 ∧ HT.sIx xs.length xs.length hi = xs.length
  · cases rx
    obtain ⟨its, r, ht, hz⟩ := I.tuple hx
    have hlen : its.toArray.size = xs.length := by rw [List.size_toArray]; exact r.length.symm
    refine ⟨"tuple", _, PyProof.Rows.slot_tuple_getitem.lookup, ht.typeIs, ?_⟩
    refine HT.getItem_tuple_all ht hs pl pu (by rw [hlen]; exact hw) ⟨.ref a, H, I, rfl, q a H ?_ fun _ _ e => e⟩
    have e : cutV xs lo hi = xs := by
      unfold cutV
      rw [hw.1, hw.2]
      simp
    rw [e]
    exact hx
  · refine sl_tup pins s σ H (.ref a) v vl vu lo hi sl Q I rx hs pl pu ⟨a, xs, rfl, hx, hw, fun p hp => q p _ (SqT.of upd_same) fun b o e => ?_⟩
    rw [upd_ne (ne_of_none e hp)]
    exact e
theorem vals_bls : ∀ {bs : List Bool} {us : List Value} {i : Nat} {v : Value}, Vals (bs.map V.bl) us → us[i]? = some v → v = .bool (bs.getD i false)
  | [], _, _, _, .nil, e => by simp at e
  | b :: bs, _, 0, v, .cons r _, e => by
    simp at e
    subst e
    exact r
  | b :: bs, _, i + 1, v, .cons _ t, e => by
    have := vals_bls (i := i) t (by simpa using e)
    simpa using this
theorem all_range {bs : List Bool} : ((List.range bs.length).all fun i => bs.getD i false) = bs.all id := by
  rw [Bool.eq_iff_iff, List.all_eq_true, List.all_eq_true]
  constructor
  · intro h b hb
    obtain ⟨i, hi, e⟩ := List.mem_iff_getElem.mp hb
    have := h i (by simpa using hi)
    rw [List.getD_eq_getElem?_getD, List.getElem?_eq_getElem hi, e] at this
    exact this
  · intro h i hi
    have hi' : i < bs.length := by simpa using hi
    rw [List.getD_eq_getElem?_getD, List.getElem?_eq_getElem hi']
    exact h _ (List.getElem_mem hi')
theorem call_all (hc : X.calm = true) : CallR X (.builtin "all") (fun xs H Q => ∃ (p : Addr) (bs : List Bool), xs = [.ref p] ∧ SqL X.K H p (bs.map V.bl) ∧ Q (.bl (bs.all id)) H) := by
  intro pins s σ H xs us Q I rv h
  obtain ⟨p, bs, rfl, hS, q⟩ := h
  obtain ⟨u, rfl, ru⟩ := rv.one
  cases ru
  obtain ⟨its, r, pl, hz⟩ := I.list hS
  have hl := r.length
  rw [List.length_map] at hl
  have hlt : p < s.heap.objs.size := by obtain ⟨o, ho, _⟩ := pl.isList; exact Heap.lt_size ho
  refine call_all_walk (wpAny_pyIter_list pl.isList ?_)
  refine ⟨_, _, _, _, _, _, fun i => bs.getD i false, rfl, Walks.list (A := X.A.in1) (I.ok.hd hc) s.heap.objs.size p (Nat.ne_of_lt hlt) its.toArray, ⟨⟨_, Heap.get?_push_size _ rfl, rfl, rfl⟩, pl.isList.push _⟩, ?_, fun h' tk hk => ?_⟩
  · intro i v s' Q' E' hv hq
    have e : v = .bool (bs.getD i false) := vals_bls r (by simpa using hv)
    subst e
    exact wpAny_truthy_bool hq
  · have e : ((List.range its.toArray.size).all fun i => bs.getD i false) = bs.all id := by
      rw [List.size_toArray, ← hl]
      exact all_range
    rw [e]
    exact ⟨.bl _, H, I.kept fun b o e => hk b o (by simp; exact Nat.ne_of_lt (Heap.lt_size e)) (Heap.get?_push_of_some _ e), rfl, q⟩
theorem call_isinst : CallR X (.builtin "isinstance") (fun xs H Q => ∃ x T t b, xs = [x, .ty T] ∧ TyOf X.K H x t ∧ PySem.W.kitOne X.K t (.type T) = some b ∧ Q (.bl b) H) := by
  intro pins s σ H xs us Q I rv h
  obtain ⟨x, T, t, b, rfl, ty, e, q⟩ := h
  obtain ⟨u, v, rfl, ru, rv⟩ := rv.two
  cases rv
  exact isinst_ok I ru ty e fun tk => ⟨.bl b, H, I.tok tk, rfl, q⟩
def tListRev (K : PySem.W.Frag) (ta : TE) : TE := fun σ H Q => ta σ H fun x H1 => ∃ l xs, x = .ref l ∧ SqL K H1 l xs ∧ ∀ p, H1 p = none → Q (.ref p) (upd H1 p (.lst xs.reverse))
def tListRng (ta : TE) : TE := fun σ H Q => ta σ H fun x H1 => ∃ n : Nat, x = .int n ∧ n ≤ 2 ^ 20 ∧ ∀ p, H1 p = none → Q (.ref p) (upd H1 p (.lst ((List.range n).map fun i => V.int (i : Nat))))
end
end L2
namespace L2
open PySem PySem.Spec PyProof.Rows
theorem Same.upd {H : Hp} {p : Addr} {o : HO} (h : H p = none) : Same H (upd H p o) := fun b u e => by rw [upd_ne (ne_of_none e h)]; exact e
theorem Same.tup {K : PySem.W.Frag} {H H' : Hp} {a : Addr} {xs : List V} (e : Same H H') (h : SqT K H a xs) : SqT K H' a xs := by
  rcases h with (h | ⟨o, h⟩) | h
  · exact .inl (.inl (e _ _ h))
  · exact .inl (.inr ⟨o, e _ _ h⟩)
  · exact .inr h
def Over (J : It) (xs : List V) (H : Hp) : Prop := ∀ H', Same H H' → (∀ i x, xs[i]? = some x → J.go i H' ∧ ∀ y H'', J.yld i H' y H'' → y = x ∧ H'' = H') ∧ J.stop xs.length H'
theorem over_tup {K : PySem.W.Frag} {H : Hp} {a : Addr} {xs : List V} (h : SqT K H a xs) : Over (Itt K a) xs H := fun H' s =>
  ⟨fun i x e => ⟨⟨xs, x, s.tup h, e⟩, fun y H'' q => ⟨Option.some.inj ((q.2 xs (s.tup h)).symm.trans e), q.1⟩⟩, ⟨xs, s.tup h, Nat.le_refl _⟩⟩
theorem over_list {K : PySem.W.Frag} {H : Hp} {a : Addr} {xs : List V} (h : SqL K H a xs) : Over (Itl K a) xs H := fun H' s =>
  ⟨fun i x e => ⟨⟨xs, x, s.seq h, e⟩, fun y H'' q => ⟨Option.some.inj ((q.2 xs (s.seq h)).symm.trans e), q.1⟩⟩, ⟨xs, s.seq h, Nat.le_refl _⟩⟩
def rngV (n : Nat) : List V := (List.range n).map fun i => V.int (i : Nat)
theorem rngV_len (n : Nat) : (rngV n).length = n := by unfold rngV; rw [List.length_map, List.length_range]
theorem rngV_get {n i : Nat} {x : V} (h : (rngV n)[i]? = some x) : i < n ∧ x = V.int (i : Nat) := by
  have hi := (List.getElem?_eq_some_iff.mp h).1
  rw [rngV_len] at hi
  unfold rngV at h
  rw [List.getElem?_map, List.getElem?_range hi] at h
  exact ⟨hi, (Option.some.inj h).symm⟩
theorem over_rng {H : Hp} {n : Nat} : Over (Itr 0 n) (rngV n) H := fun H' s =>
  ⟨fun i x e => ⟨(rngV_get e).1, fun y H'' q => ⟨by rw [(rngV_get e).2, q.2]; congr 1; omega, q.1⟩⟩, by show n ≤ _; rw [rngV_len]; exact Nat.le_refl _⟩
theorem comp_gen {J : It} {xs : List V} {ti : TT} {te : TE} {cap : List (Option Nat)} {σ : St} {H : Hp} {Q : VK} (O : Over J xs H) (hz : xs.length ≤ sizeLine) (Pv : Nat → List V → Hp → Prop) (h0 : Pv 0 [] H)
    (sm : ∀ i ys H', Pv i ys H' → Same H H')
    (turn : ∀ i x ys H', xs[i]? = some x → Pv i ys H' → ti ((capS cap σ).set 0 (some x)) H' fun b H5 => if b = true then te ((capS cap σ).set 0 (some x)) H5 fun y H6 => Pv (i + 1) (ys ++ [y]) H6 else Pv (i + 1) ys H5)
    (fin : ∀ ys H', Pv xs.length ys H' → ∀ D, H' D = none → Q (.ref D) (upd H' D (.lst ys))) :
    compR (gName 0) ti te cap σ Q J H := by
  refine ⟨xs.length, Pv, hz, h0, fun i ys H2 hi p => ?_, fun ys H2 p => ⟨(O H2 (sm _ _ _ p)).2, fin ys H2 p⟩⟩
  have e : xs[i]? = some xs[i] := List.getElem?_eq_getElem hi
  obtain ⟨g1, g2⟩ := (O H2 (sm _ _ _ p)).1 i xs[i] e
  refine ⟨g1, fun x H3 y => ?_⟩
  obtain ⟨rfl, rfl⟩ := g2 x H3 y
  exact turn i _ ys _ e p
def tMid (t : TS) : TS := fun D σ H => ∃ M : St → Hp → Prop, t { D with nx := M } σ H ∧ ∀ σ' H', M σ' H' → D.nx σ' H'
def tMidE (t : TE) : TE := fun σ H Q => ∃ M : VK, t σ H M ∧ ∀ v H', M v H' → Q v H'
theorem ps_mid {X : Cx} {st : Stmt} {t : TS} (h : PS X st t) : PS X st (tMid t) := by
  rintro pins s σ H D I ⟨M, h1, h2⟩
  refine thn (h pins s σ H _ I h1) fun f s1 q => ?_
  cases f with
  | next => obtain ⟨σ', H', I', m⟩ := q; exact ⟨σ', H', I', h2 _ _ m⟩
  | brk => exact q
  | cont => exact q
  | ret v => exact q
theorem pe_mid {X : Cx} {e : Expr} {t : TE} (h : PE X e t) : PE X e (tMidE t) := by
  rintro pins s σ H Q I ⟨M, h1, h2⟩
  exact thn (h pins s σ H M I h1) fun u s1 ⟨v, H', I', r, m⟩ => ⟨v, H', I', r, h2 _ _ m⟩
theorem comp_map {J : It} {xs : List V} {te : TE} {cap : List (Option Nat)} {σ : St} {H : Hp} {Q : VK} (O : Over J xs H) (hz : xs.length ≤ sizeLine) (F : Nat → V → Hp → Prop) (mono : ∀ i y H1 H2, Same H1 H2 → F i y H1 → F i y H2)
    (turn : ∀ i x H', xs[i]? = some x → Same H H' → te ((capS cap σ).set 0 (some x)) H' fun y H6 => Same H' H6 ∧ F i y H6)
    (fin : ∀ ys H', Same H H' → ys.length = xs.length → (∀ i y, ys[i]? = some y → F i y H') → ∀ D, H' D = none → Q (.ref D) (upd H' D (.lst ys))) :
    compR (gName 0) tYes (tMidE te) cap σ Q J H := by
  refine comp_gen O hz (fun i ys H' => Same H H' ∧ ys.length = i ∧ ∀ j y, ys[j]? = some y → F j y H') ⟨Same.refl _, rfl, fun j y e => by simp at e⟩ (fun i ys H' p => p.1) (fun i x ys H' e p => ?_) fun ys H' p => fin ys H' p.1 p.2.1 p.2.2
  unfold tYes
  refine iteT ⟨_, turn i x H' e p.1, fun y H6 q => ?_⟩
  refine ⟨p.1.trans q.1, by rw [List.length_append, p.2.1]; rfl, fun j z hj => ?_⟩
  by_cases hji : j < ys.length
  · rw [List.getElem?_append_left hji] at hj
    exact mono _ _ _ _ q.1 (p.2.2 j z hj)
  · rw [List.getElem?_append_right (by omega)] at hj
    have hj0 : j - ys.length = 0 := by
      have := (List.getElem?_eq_some_iff.mp hj).1
      simp at this
      omega
    rw [hj0] at hj
    have ej : j = i := by omega
    subst ej
    cases hj
    exact q.2
theorem ix_listK {X : Cx} {K : PySem.W.Frag} (h : X.K = K) : IxR X (rIxL K) := h ▸ ix_list
def FdAt (K : PySem.W.Frag) (f : Addr) (fd : FuncData) : Prop := ∃ oc od osl, K.lookup f = some ⟨oc, od, .func fd, osl⟩
theorem Fun.at {K : PySem.W.Frag} {x qual : Str} {st : Stmt} {f : Addr} {fd : FuncData} (F : Fun K x qual st f fd) : FdAt K f fd := by
  obtain ⟨oc, od, _, _, _, _, _, _, osl, _, lk, _⟩ := F.ex
  exact ⟨oc, od, osl, lk⟩
def FnP (P : Program) (w : World) (K : PySem.W.Frag) (mg : Str → Option Value) (base : Heap) (k : Nat) (x : Str) (ps : List Str) (sp : Sp) : Prop :=
  ∃ f fd, mg x = some (.ref f) ∧ PySem.W.keepIn K (.ref f) = true ∧ Binds K fd ps [] ∧ FnOk P w K mg base CX0 k f fd ps sp ∧ FdAt K f fd
def DefT (K : PySem.W.Frag) (mg : Str → Option Value) (x : Str) (st : Stmt) (ps : List Str) : Prop := ∃ f fd, mg x = some (.ref f) ∧ Fun K x x st f fd ∧ Binds K fd ps []
theorem DefT.ok {P : Program} {w : World} {K : PySem.W.Frag} {mg : Str → Option Value} {base : Heap} {x : Str} {st : Stmt} {N ps : List Str} {k : Nat} {sp : Sp} (D : DefT K mg x st ps) (S : FnScope N ps (defScope st)) (len : ∀ vs H Q E, sp vs H Q E → vs.length = ps.length)
    (hbody : ∀ (f : Addr) (cdv : Value) (A : Around) (outer : List Env) (s : Shared) (H : Hp) (vs : List V) (Q : VK) (E : XK), Room k (A.deeper (envOfC x (defScope st) s.heap.objs.size f cdv)) → sp vs H Q E →
      ∃ t, PSs (cxOf CX0 P w K mg base N x (defScope st) f cdv A outer s H E).nox (defBody st) t ∧ t { nx := fun _ H' => Q .non H', rt := Q } (start N vs) H) : FnP P w K mg base (k + 1) x ps sp := by
  obtain ⟨f, fd, hm, F, b⟩ := D
  exact ⟨f, fd, hm, F.kp, b, F.ok S len fun cdv A outer s H vs Q E hr h => hbody f cdv A outer s H vs Q E hr h, F.at⟩
section
variable {X : Cx} {k : Nat} {x : Str} {ps : List Str} {sp : Sp} {p pos : Pos} {e : Expr} {es : List Expr} {t : TA}
theorem pe_fn (F : FnP X.prog X.w X.K X.mg X.base k x ps sp) (hr : Room k X.A) (hg : Gl X x) (ha : PA X (e :: es) t) (hdb : (x == ("__debug__" : Str)) = false := by decide)
    (he : starEach (e :: es) X.env = (false, eval e X.env) :: starEach es X.env := by rfl) (hpl : (backTo pos (starEach es X.env)).any (·.1) = false := by rfl) : PE X (.Call (.Name x p) (e :: es) [] pos) (tCall sp [] E0 t) := by
  obtain ⟨f, fd, hm, hk, hb, G, _⟩ := F
  exact pe_call G hr hg hm hk hb .nil pass0 ha hdb he hpl
end
end L2
namespace L2
open PySem PySem.Spec PyProof.Rows
section
variable {X : Cx}
end
end L2
namespace L2
open PySem PySem.Spec PyProof.Rows
theorem ints_at {ns : List Int} {us : List Value} (r : Vals (ns.map V.int) us) {j : Nat} (h : j < us.length) (h' : j < ns.length) : ∃ t, us[j] = .int ns[j] t := by
  have hx : (ns.map V.int)[j]? = some (V.int ns[j]) := by rw [List.getElem?_map, List.getElem?_eq_getElem h']; rfl
  obtain ⟨u, h1, t, h2⟩ := r.get hx
  rw [List.getElem?_eq_getElem h] at h1
  cases h1
  exact ⟨t, h2⟩
section
variable {X : Cx}
def rIndex : V → List V → Hp → VK → Prop := fun x vs H Q => ∃ (l : Addr) (ns : List Int) (i : Int), x = .ref l ∧ vs = [.int i] ∧ H l = some (.lst (ns.map V.int)) ∧ i ∈ ns ∧ Q (.int (ns.idxOf i : Nat)) H
theorem pe_bmK {K : PySem.W.Frag} {o e : Expr} {es : List Expr} {to : TE} {t : TA} {name : Str} {apos cpos : Pos} {T id : String} {r : V → List V → Hp → VK → Prop} (hK : X.K = K) (pa : PlainAttrs T) (slot : Slot T name id)
    (hty : typeOf (.builtin id) = pure (.type "method_descriptor")) (hm : MtR X id r) (ho : PE X o to) (ha : PA X (e :: es) t) (hbase : attributeBase o name X.env (eval o X.env) = eval o X.env := by rfl)
    (hfew : ((backTo cpos (starEach (e :: es) X.env)).all (fun x => !x.1) && (backToKw cpos (keywordEach [] X.env)).all (fun x => x.1.isSome) && decide ((e :: es).length + ([] : List Keyword).length + (if ([] : List Keyword).isEmpty then 0 else 1) < 30)) = true := by rfl)
    (hline : (apos.endLine == cpos.line) = true := by rfl) (hs : starEach (e :: es) X.env = (false, eval e X.env) :: starEach es X.env := by rfl) (hplain : (backTo cpos (starEach es X.env)).any (·.1) = false := by rfl) :
    PE X (.Call (.Attribute o name apos) (e :: es) [] cpos) (tBM K T r to t) := hK ▸ pe_bm pa slot hty hm ho ha hbase hfew hline hs hplain
end
end L2
namespace L2
open PySem PySem.Spec PyProof.Rows
section
variable {X : Cx}
end
end L2
namespace L2
open PySem PySem.Spec PyProof.Rows PySem.Builtin PySem.Builtin.Str
theorem strs_vals : ∀ {ts : List Str} {us : List Value}, Vals (ts.map V.str) us → StrsAre us ts
  | [], _, .nil => .nil
  | _ :: _, _, .cons ⟨_, rfl⟩ t => .cons _ _ (strs_vals t)
theorem vals_from : ∀ (ts : List Str) (k : Nat), Vals (ts.map V.str) (strsFrom k ts)
  | [], _ => .nil
  | _ :: ts, k => .cons ⟨_, rfl⟩ (vals_from ts (k + 1))
section
variable {X : Cx}
def rJoin (K : PySem.W.Frag) : V → List V → Hp → VK → Prop := fun x vs H Q => ∃ (sep : Str) (p : Addr) (ts : List Str), x = .str sep ∧ vs = [.ref p] ∧ SqL K H p (ts.map V.str) ∧ sep.length ≤ 64 ∧ (ts.map (·.length)).sum + ts.length * 64 ≤ 16777216 ∧ Q (.str (Txt.join sep ts)) H
theorem mt_join : MtM X "str.join" (rJoin X.K) := by
  intro pins s σ H x vs v us Q I rx rv h
  obtain ⟨sep, p, ts, rfl, rfl, hS, h1, h2, q⟩ := h
  obtain ⟨t, rfl⟩ := rx
  obtain ⟨u, rfl, ru⟩ := rv.one
  cases ru
  obtain ⟨its, r, pl, hz⟩ := I.list hS
  exact join_listC pl.isList (strs_vals r) h1 h2 fun t' k => ⟨.str _, H, I.tok _, ⟨_, rfl⟩, q⟩
theorem split_len (x y : Str) : (Txt.split x y).length ≤ x.length + 2 := by
  unfold Txt.split
  split
  · show 1 ≤ _; omega
  · split
    · show 1 ≤ _; omega
    · have h := StrLaws.occ_length_le x y 0 x.length (x.length + 1)
      unfold partsBetween
      rw [List.length_map, List.length_zip, List.length_cons, List.length_map, List.length_append, List.length_singleton]
      omega
def rSplit : V → List V → Hp → VK → Prop := fun x vs H Q => ∃ z y : Str, x = .str z ∧ vs = [.str y] ∧ (y.length == 0) = false ∧ z.length ≤ 900000 ∧ ∀ l, H l = none → Q (.ref l) (upd H l (.lst ((Txt.split z y).map V.str)))
theorem mt_split : MtM X "str.split" rSplit := by
  intro pins s σ H x vs v us Q I rx rv h
  obtain ⟨z, y, rfl, rfl, hy, hz, q⟩ := h
  obtain ⟨t, rfl⟩ := rx
  obtain ⟨u, rfl, t', rfl⟩ := rv.one
  have hl := split_len z y
  have hzl : z.length ≤ sizeLine := Nat.le_trans (show z.length ≤ 1000000 by omega) (by decide)
  have fin : ∀ (its : List Value) (k : Nat), Vals ((Txt.split z y).map V.str) its → EP X pins σ Q (.ref s.heap.objs.size) { s with heap := s.heap.push { cls := .type "list", data := .seq its.toArray }, toks := k } := fun its k r =>
    ⟨.ref s.heap.objs.size, _, I.lnew (t' := k) r (by rw [List.length_map]; exact Nat.le_trans (show (Txt.split z y).length ≤ 1000000 by omega) (by decide)), rfl, q _ I.fresh⟩
  by_cases h1 : (decide (z.length < y.length) || decide (strKind z < strKind y)) = true
  · have e : Txt.split z y = [z] := by unfold Txt.split; rw [if_pos h1]
    refine call_meets F.slot_str_split (typeIs_str _ _ _) F.entry_str_split (F.args_str_split_2 _ _) (meets_str_split_cannot_occur z y t t' h1) ?_
    exact fin [.str z t] s.toks (by rw [e]; exact .cons ⟨_, rfl⟩ .nil)
  · have h1' : (decide (z.length < y.length) || decide (strKind z < strKind y)) = false := by simpa using h1
    by_cases h2 : (occurrences z y 0 z.length (z.length + 1)).isEmpty = true
    · have e : Txt.split z y = [z] := by unfold Txt.split; rw [if_neg h1, if_pos h2]
      refine call_meets F.slot_str_split (typeIs_str _ _ _) F.entry_str_split (F.args_str_split_2 _ _) (meets_str_split_not_found z y t t' h1' hy h2) ?_
      exact fin [.str z t] s.toks (by rw [e]; exact .cons ⟨_, rfl⟩ .nil)
    · have h2' : (occurrences z y 0 z.length (z.length + 1)).isEmpty = false := by simpa using h2
      have e : Txt.split z y = partsBetween z (occurrences z y 0 z.length (z.length + 1)) y.length := by unfold Txt.split; rw [if_neg h1, if_neg h2]
      refine call_meets F.slot_str_split (typeIs_str _ _ _) F.entry_str_split (F.args_str_split_2 _ _) (meets_str_split_sep z y t t' h1' hy h2' hzl ?_) ?_
      · rw [← e]
        exact Nat.le_trans (show (Txt.split z y).length ≤ 1000000 by omega) (by decide)
      · exact fin _ _ (by rw [e]; exact vals_from _ _)
def rSlS : V → Option Int → Option Int → Hp → VK → Prop := fun x lo hi H Q => ∃ z : Str, x = .str z ∧ z.length ≤ sizeLine ∧ Q (.str (Txt.slice z lo hi)) H
theorem sl_str : SlR X rSlS := by
  intro pins s σ H x v vl vu lo hi sl Q I rx hs pl pu h
  obtain ⟨z, rfl, hz, q⟩ := h
  obtain ⟨t, rfl⟩ := rx
  refine ⟨"str", _, F.slot_str_getitem.lookup, typeIs_str s z t, ?_⟩
  have fin : ∀ t' k, EP X pins σ Q (.str (Txt.slice z lo hi) t') { s with toks := k } := fun t' k => ⟨.str _, H, I.tok k, ⟨_, rfl⟩, q⟩
  cases pl with
  | none =>
    cases pu with
    | none => exact wpAny_getItem_str_slice (l := none) (u := none) (st := none) hs rfl (post_val_or_str ⟨Nat.le_trans (Txt.slice_le z _ _) hz, fin⟩)
    | int j uj => exact wpAny_getItem_str_slice (l := none) (u := some (j, uj)) (st := none) hs rfl (post_val_or_str ⟨Nat.le_trans (Txt.slice_le z _ _) hz, fin⟩)
  | int i ui =>
    cases pu with
    | none => exact wpAny_getItem_str_slice (l := some (i, ui)) (u := none) (st := none) hs rfl (post_val_or_str ⟨Nat.le_trans (Txt.slice_le z _ _) hz, fin⟩)
    | int j uj => exact wpAny_getItem_str_slice (l := some (i, ui)) (u := some (j, uj)) (st := none) hs rfl (post_val_or_str ⟨Nat.le_trans (Txt.slice_le z _ _) hz, fin⟩)
theorem mt_startswith : MtM X "str.startswith" (fun x vs H Q => ∃ z y : Str, x = .str z ∧ vs = [.str y] ∧ Q (.bl (Txt.startswith z y)) H) := by
  intro pins s σ H x vs v us Q I rx rv h
  obtain ⟨z, y, rfl, rfl, q⟩ := h
  obtain ⟨t, rfl⟩ := rx
  obtain ⟨u, rfl, t', rfl⟩ := rv.one
  exact call_gives F.slot_str_startswith (typeIs_str _ _ _) F.entry_str_startswith (F.args_str_startswith_2 _ _) (gives_str_startswith z y t t') ⟨.bl _, H, I, rfl, q⟩
theorem mt_find : MtM X "str.find" (fun x vs H Q => ∃ z y : Str, x = .str z ∧ vs = [.str y] ∧ Q (.int (Txt.find z y)) H) := by
  intro pins s σ H x vs v us Q I rx rv h
  obtain ⟨z, y, rfl, rfl, q⟩ := h
  obtain ⟨t, rfl⟩ := rx
  obtain ⟨u, rfl, t', rfl⟩ := rv.one
  exact call_gives F.slot_str_find (typeIs_str _ _ _) F.entry_str_find (F.args_str_find_2 _ _) (gives_str_find z y t t') ⟨.int _, H, I.tok _, ⟨_, rfl⟩, q⟩
def Its (z : Str) : It := ⟨fun i _ => i < z.cps.size, fun i H x H' => H' = H ∧ ∃ c, z.cps[i]? = some c ∧ x = .str ⟨#[c]⟩, fun i _ => z.cps.size ≤ i⟩
theorem turn_str {P : Program} {w : World} {K : PySem.W.Frag} {tg : Expr} (z : Str) (t : Tok) (it : Addr) : Turn P w K tg (Its z) [it] it (fun i h => h.IsStrIter it "str_ascii_iterator" z t i) where
  mem := by simp
  obj := fun i h st b hb => by
    have e : b = it := by simpa using hb
    subst e
    obtain ⟨o, e, c, d⟩ := st
    exact ⟨o, e, fun v z => by rw [d] at z; cases z⟩
  keep := fun i h h' st k => by
    obtain ⟨o, e, c, d⟩ := st
    exact ⟨o, k it (by simp) o e, c, d⟩
  item := by
    intro X hP hw hK hc i pins s σ H E I hf st hg
    subst hP hw hK
    obtain ⟨f0, f1, f2, f3, f4, f5⟩ := hf it (by simp)
    have hx : z.cps[i]? = some z.cps[i] := Array.getElem?_eq_getElem hg
    refine wpAny_pyNext_ascii_item st hx fun h' st' sb => ?_
    have I1 : Inv X pins σ H { s with heap := h', toks := s.toks + 1 } := I.turned (fun b o hb e => (sb.2 b hb).trans e) f0 f1 f3 f4 f5
    obtain ⟨o, e, c, d⟩ := id st'
    exact ⟨_, rfl, go_of (s := { s with heap := h', toks := s.toks + 1 }) e c d (by decide) ⟨.str ⟨#[z.cps[i]]⟩, H, I1, ⟨_, rfl⟩, ⟨rfl, _, hx, rfl⟩, st', fun b hb => (hf b hb).1⟩⟩
  done := by
    intro X hP hw hK hc i pins s σ H E I hf st hg
    subst hP hw hK
    obtain ⟨f0, f1, f2, f3, f4, f5⟩ := hf it (by simp)
    exact wpAny_pyNext_ascii_end (I.ok.hd hc) st (Array.getElem?_eq_none hg) fun h' eb => ⟨rfl, I.turned (t' := s.toks) (fun b o hb e => eb b o hb e) f0 f1 f3 f4 f5⟩
  self := fun _ _ _ _ _ st h => wpAny_pyIter_striter_ascii st h
def iStr (tl : TE) : TI := fun σ H R => tl σ H fun x H1 => ∃ z : Str, x = .str z ∧ z.cps.all (· < 128) = true ∧ R (Its z) H1
theorem pi_str {tg l : Expr} {tl : TE} (hl : PE X l tl) : PI X tg l (iStr tl) := by
  intro pins s σ H R I h
  refine thn (hl pins s σ H _ I h) fun v s1 ⟨x, H1, I1, r1, q1⟩ => ?_
  obtain ⟨z, e, ha, q⟩ := q1
  subst e
  obtain ⟨t, rfl⟩ := r1
  refine wpAny_pyIter_ascii ha ?_
  refine ⟨s1.heap.objs.size, [s1.heap.objs.size], _, _, H1, rfl, I1.kept (t' := s1.toks) fun b o e => Heap.get?_push_of_some _ e, turn_str z t _, ⟨_, Heap.get?_push_size _ rfl, rfl, rfl⟩, fun b hb => ?_, q⟩
  have e : b = s1.heap.objs.size := by simpa using hb
  subst e
  exact I1.fpOk (Nat.le_refl _) (I1.hok.fresh (Nat.le_refl _))
def signs (z : Str) : List V := z.cps.toList.map fun c => V.str ⟨#[c]⟩
theorem over_str {H : Hp} {z : Str} : Over (Its z) (signs z) H := fun H' s => by
  have hl : (signs z).length = z.cps.size := by unfold signs; rw [List.length_map, Array.length_toList]
  refine ⟨fun i x e => ?_, by show z.cps.size ≤ _; rw [hl]; exact Nat.le_refl _⟩
  have hi : i < z.cps.size := by rw [← hl]; exact (List.getElem?_eq_some_iff.mp e).1
  refine ⟨hi, fun y H'' ⟨q1, c, q2, q3⟩ => ⟨?_, q1⟩⟩
  unfold signs at e
  rw [List.getElem?_map, Array.getElem?_toList, q2] at e
  rw [q3]
  exact (Option.some.inj e)
def figD : List (Str × PyData) := [("0", .int 0), ("1", .int 1), ("2", .int 2), ("3", .int 3)]
def FigIn (K : PySem.W.Frag) (a : Addr) : Prop := KTD.tabLook KTD.flatLooks (fun b => List.lookup b K) a figD = true
def figT : List (Str × KTD.Dat) := figD.map fun p => (p.1, KTD.Dat.flat p.2)
theorem fig_here {pins : List (Addr × Obj)} {σ : St} {H : Hp} {s : Shared} {a : Addr} (I : Inv X pins σ H s) (h : FigIn X.K a) : KTD.Here X.base s.heap a figT :=
  ⟨(KTD.tab_of_look (R := fun d v => PyProof.V.Flat v d) (fun _ _ z => KTD.flat_of_looks z) (get := fun b => List.lookup b X.K) (fun b o e => I.ok.mod.kin b o e) h).text, I.bk⟩
theorem op_inFig {a : Addr} (h : FigIn X.K a) : OpR X (compareOp .In) (fun x y H Q => ∃ k, x = .str k ∧ y = .ref a ∧ Q (.bl (KTD.inKeys k figT)) H) := by
  intro pins s σ H x y v u Q I rx ry hq
  obtain ⟨k, rfl, rfl, q⟩ := hq
  obtain ⟨t, rfl⟩ := rx
  cases ry
  exact KTD.in_text (fig_here I h) ⟨.bl _, H, I.tok _, rfl, q⟩
def figS (n : Nat) : Str := ⟨#[48 + n]⟩
theorem ix_fig {a : Addr} (h : FigIn X.K a) : IxR X (fun x y H Q => ∃ n : Nat, x = .ref a ∧ y = .str (figS n) ∧ n < 4 ∧ Q (.int n) H) := by
  intro value slice pins s σ H x y v u Q I rx ry hq hs
  obtain ⟨n, rfl, rfl, hn, q⟩ := hq
  obtain ⟨t, rfl⟩ := ry
  cases rx
  have op : ∀ {i : Int}, i = (n : Int) → KTD.Opened X.base (fun v => EP X pins σ Q v { s with toks := s.toks + 1 }) (.flat (.int i)) := fun e => KTD.opened_int fun t => ⟨.int n, H, I.tok _, ⟨t, by rw [e]⟩, q⟩
  have go : KTD.inKeys (figS n) figT = true ∧ KTD.EachL X.base (figS n) (fun v => EP X pins σ Q v { s with toks := s.toks + 1 }) figT := by
    have : n = 0 ∨ n = 1 ∨ n = 2 ∨ n = 3 := by omega
    rcases this with rfl | rfl | rfl | rfl
    · exact ⟨by decide +kernel, KTD.eachL_hit (by decide +kernel) (op rfl)⟩
    · exact ⟨by decide +kernel, KTD.eachL_miss (by decide +kernel) (KTD.eachL_hit (by decide +kernel) (op rfl))⟩
    · exact ⟨by decide +kernel, KTD.eachL_miss (by decide +kernel) (KTD.eachL_miss (by decide +kernel) (KTD.eachL_hit (by decide +kernel) (op rfl)))⟩
    · exact ⟨by decide +kernel, KTD.eachL_miss (by decide +kernel) (KTD.eachL_miss (by decide +kernel) (KTD.eachL_miss (by decide +kernel) (KTD.eachL_hit (by decide +kernel) (op rfl))))⟩
  exact KTD.item_textA (fig_here I h) (by decide +kernel) go.1 go.2 hs
end
end L2
namespace L2
open PySem PySem.Spec PyProof.Rows
def CXE (P : Program) (w : World) : CXT := fun outer H s E e s' => ∃ (ea : Addr) (cls a0 : Value) (B : Heap) (H' : Hp), e = .ref ea ∧ s'.os = s.os ∧ AllBare s'.gens ∧ Un (frs outer) [] H H' s.heap s'.heap ∧
  HOk P w H' B ∧ (∀ b o, s.heap.get? b = some o → b ∉ frs outer → ∃ o', B.get? b = some o') ∧ Heap.FlyingW B outer ea cls a0 s'.heap ∧ E cls none H'
theorem un_slots {fs : List Addr} {H H' : Hp} {h0 h2 h3 B : Heap} (u : Un fs [] H H' h0 h2) (hB : ∀ b o, h0.get? b = some o → b ∉ fs → ∃ o', B.get? b = some o') (k2 : ∀ b o, B.get? b = some o → h2.get? b = some o)
    (k3 : ∀ b o, B.get? b = some o → h3.get? b = some o) (sl : h2.UpToSlots h3) (nf : ∀ b ∈ fs, ∀ o, h0.get? b = some o → ∀ vs, o.data ≠ .fields vs) (hf : ∀ b ∈ fs, H b = none) : Un fs [] H H' h0 h3 := by
  have slot : ∀ b o, h0.get? b = some o → H b = none → b ∈ fs → ∃ l, h3.get? b = some { o with slots := l } := fun b o q n hb => by
    obtain ⟨l, e⟩ := u.slot b o q n hb (by simp)
    obtain ⟨l', e'⟩ := sl b _ e (nf b hb o q)
    exact ⟨l', e'⟩
  refine ⟨fun b o q n hb hx => ?_, fun b o q n hb hx => slot b o q n hb, u.free, fun b o q hx => ?_, u.tups, u.frzs, u.tbls⟩
  · have e2 := u.keep b o q n hb hx
    obtain ⟨o', eB⟩ := hB b o q hb
    have e2' := k2 b o' eB
    rw [e2] at e2'
    cases e2'
    exact k3 b o eB
  · by_cases hb : b ∈ fs
    · obtain ⟨l, e⟩ := slot b o q (hf b hb) hb
      exact ⟨_, e⟩
    · obtain ⟨o', eB⟩ := hB b o q hb
      exact ⟨o', k3 b o' eB⟩
theorem frs_cons {env : Env} {outer : List Env} {L : Addr} (h : env.frame = some L) : frs (env :: outer) = L :: frs outer := by unfold frs; rw [List.filterMap_cons, h]
section
variable {P : Program} {w : World} {K : PySem.W.Frag} {mg : Str → Option Value} {base : Heap} {N : List Str} {qual : Str} {scope : Scope} {f : Addr} {cd : Value} {A : Around} {outer : List Env} {s : Shared} {H : Hp} {E E' : XK}
theorem stay_in {pins : List (Addr × Obj)} {σ : St} {H1 : Hp} {s1 : Shared} (I : Inv (cxOf (CXE P w) P w K mg base N qual scope f cd A outer s H E) pins σ H1 s1) {B : Heap} (hB : ∀ b o, s1.heap.get? b = some o → b ∉ frs (envOfC qual scope s.heap.objs.size f cd :: outer) → ∃ o', B.get? b = some o') :
    ∀ b o, s.heap.get? b = some o → b ∉ frs outer → ∃ o', B.get? b = some o' := fun b o q hb => by
  obtain ⟨o1, e1⟩ := I.base.there b o q fun z => absurd (show b ∈ ([] : List Addr) from z) (by simp)
  refine hB b o1 e1 fun z => ?_
  rw [frs_cons (show (envOfC qual scope s.heap.objs.size f cd).frame = some s.heap.objs.size from rfl)] at z
  rcases List.mem_cons.mp z with z | z
  · exact absurd (Heap.lt_size q) (by rw [z]; exact Nat.lt_irrefl _)
  · exact hb z
theorem no_fields {pins : List (Addr × Obj)} {σ : St} {H1 : Hp} {s1 : Shared} (I : Inv (cxOf (CXE P w) P w K mg base N qual scope f cd A outer s H E) pins σ H1 s1) : ∀ b ∈ frs outer, ∀ o, s.heap.get? b = some o → ∀ vs, o.data ≠ .fields vs := fun b hb o q => by
  obtain ⟨_, o', e, nf⟩ := I.ok.funs.mem hb
  have e' : s.heap.get? b = some o' := e
  rw [q] at e'
  cases e'
  exact nf
theorem pass_on (hE : ∀ c d H', E' c d H' → E c d H') : Passes (CXE P w) (cxOf (CXE P w) P w K mg base N qual scope f cd A outer s H E) E' := by
  rintro pins σ H1 s1 e s2 I ⟨ea, cls, a0, B, H', rfl, os, bare, un, ok, hB, fl, q⟩
  have J := I.call' (ch := []) os un (ok.kept fl.1) bare fun b z => absurd z (by simp)
  show wpAny (model P w) (A.deeper (envOfC qual scope s.heap.objs.size f cd)) (leaving (envOfC qual scope s.heap.objs.size f cd) (.ref ea)) _ _ s2
  refine wpAny_leaves_onW (L := s.heap.objs.size) I.ok.frames rfl fl fun h3 fl3 sl => ?_
  have hB' := stay_in I hB
  exact ⟨ea, cls, a0, B, H', rfl, os.trans I.os, bare, un_slots J.base hB' fl.1 fl3.1 sl (no_fields I) I.ok.frf, ok, hB', fl3, hE _ _ _ q⟩
theorem raised {pins : List (Addr × Obj)} {σ : St} {H1 : Hp} {s1 : Shared} {h2 : Heap} {ea : Addr} {cls : Value} {vs : List Value} {tk : Nat} (I : Inv (cxOf (CXE P w) P w K mg base N qual scope f cd A outer s H E) pins σ H1 s1) (hx : Heap.MadeExcOf s1.heap h2 ea cls vs) (q : E cls none H1) :
    (cxOf (CXE P w) P w K mg base N qual scope f cd A outer s H E).xe (.ref ea) { s1 with heap := h2, toks := tk } := by
  have hfr : ∀ b ∈ frs (envOfC qual scope s.heap.objs.size f cd :: outer), H1 b = none := I.stkFree
  have stk : s1.heap.FunFrames base (envOfC qual scope s.heap.objs.size f cd :: outer) := I.stack
  have hin : ∀ env ∈ (envOfC qual scope s.heap.objs.size f cd :: outer), ∀ b, env.frame = some b → b ∈ frs (envOfC qual scope s.heap.objs.size f cd :: outer) := fun env he b hb => List.mem_filterMap.mpr ⟨env, he, hb⟩
  have hB : ∀ b o, s1.heap.get? b = some o → b ∉ frs (envOfC qual scope s.heap.objs.size f cd :: outer) → ∃ o', (PySem.W.hideAll s1.heap (frs (envOfC qual scope s.heap.objs.size f cd :: outer))).get? b = some o' := fun b o e hb => ⟨o, PySem.W.hideAll_get _ e hb⟩
  have k1 : ∀ b o, (PySem.W.hideAll s1.heap (frs (envOfC qual scope s.heap.objs.size f cd :: outer))).get? b = some o → s1.heap.get? b = some o := fun b o e => PySem.W.of_hideAll _ e
  show wpAny (model P w) (A.deeper (envOfC qual scope s.heap.objs.size f cd)) (leaving (envOfC qual scope s.heap.objs.size f cd) (.ref ea)) _ _ _
  refine wpAny_leaves_madeW (L := s.heap.objs.size) (base := PySem.W.hideAll s1.heap (frs (envOfC qual scope s.heap.objs.size f cd :: outer))) (h := s1.heap) I.ok.frames rfl k1 (PySem.W.funFrames_hide stk hin) hx fun h3 t fl tup hn sl => ?_
  have hB' := stay_in I hB
  have u2 : Un (frs outer) [] H H1 s.heap h2 := Un.trans I.base (Un.kept hx.keeps)
  refine ⟨ea, cls, .ref t, _, H1, rfl, I.os, I.bare, un_slots u2 hB' (fun b o e => hx.keeps b o (k1 b o e)) fl.1 sl (no_fields I) I.ok.frf, fun a o e => ?_, hB', fl, q⟩
  refine (I.hok a o e).stay (fun b u hb e' => PySem.W.hideAll_get _ e' fun z => ?_) (fun _ z => z) fun _ _ z => z
  have := hfr b z
  rcases hb with rfl | hb
  · rw [e] at this; cases this
  · rw [hb] at this; cases this
end
theorem exc_of_in {K : PySem.W.Frag} {h : Heap} {C : Addr} {bmB : List Value} {newId : String} (X : K.In h) (q : PySem.W.excIn K C bmB newId = true) :
    ∃ bm n nm qn bs hd sn sub ab col dd k0 k1 k2 k3 k5 mN, h.get? C = some (excClassObj nm qn C n bs bm hd sn sub ab col dd k0 k1 k2 k3 k5 newId) ∧ h.Ns n mN ∧ mN "__init__" = none ∧ OwnTail h bmB bm := by
  unfold PySem.W.excIn at q
  split at q
  case h_2 => cases q
  case h_1 dd cd sl ho =>
    split at q
    case h_2 => cases q
    case h_1 C' bm k0 k1 k2 k3 n k5 hm hs =>
      simp only [Bool.and_eq_true, beq_iff_eq, Bool.not_eq_true'] at q
      obtain ⟨⟨⟨⟨⟨q1, q2⟩, q3⟩, q4⟩, q5⟩, q6⟩ := q
      subst q1 q2
      obtain ⟨nm, bs, mro, ns, qn, hd, sn, sub, ab, col, del⟩ := cd
      simp only at hm q3 q5 q6
      subst hm q3
      have es : sl = #[k0, k1, k2, k3, some (.builtin n), k5] := by
        cases sl with
        | mk l => simp only at hs; rw [hs]
      subst es
      exact ⟨bm, ns, nm, qn, bs, hd, sn, sub, ab, col, dd, k0, k1, k2, k3, k5, _, X _ _ ho, .of_isNs (PySem.W.isNs_of_in X q5), PySem.W.nsMap_none_of_in X q5 q6, PySem.W.tail_of_in X q4⟩
abbrev veBase : List Value := [.type "ValueError", .type "Exception", .type "BaseException", .type "object"]
def ExcC (K : PySem.W.Frag) (mg : Str → Option Value) (x : Str) (C : Addr) : Prop := mg x = some (.ref C) ∧ PySem.W.excIn K C veBase "ValueError.__new__" = true
def tRaise (C : Addr) (E : XK) (t : TA) : TS := fun _ σ H => t σ H fun vs H1 => vs.length ≤ 1000 ∧ E (.ref C) none H1
section
variable {P : Program} {w : World} {K : PySem.W.Frag} {mg : Str → Option Value} {base : Heap} {N : List Str} {qual : Str} {scope : Scope} {f : Addr} {cd : Value} {A : Around} {outer : List Env} {s : Shared} {H : Hp} {E : XK}
theorem ps_raise {x : Str} {C : Addr} {np cpos pos : Pos} {e : Expr} {es : List Expr} {t : TA} (hc : ExcC K mg x C) (hg : Gl (cxOf (CXE P w) P w K mg base N qual scope f cd A outer s H E) x) (ha : PA (cxOf (CXE P w) P w K mg base N qual scope f cd A outer s H E) (e :: es) t)
    (hpl : (backTo cpos (starEach (e :: es) (envOfC qual scope s.heap.objs.size f cd))).any (·.1) = false := by rfl) (he : starEach (e :: es) (envOfC qual scope s.heap.objs.size f cd) = (false, eval e (envOfC qual scope s.heap.objs.size f cd)) :: starEach es (envOfC qual scope s.heap.objs.size f cd) := by rfl) (hdb : (x == ("__debug__" : Str)) = false := by decide) :
    PS (cxOf (CXE P w) P w K mg base N qual scope f cd A outer s H E) (.Raise (some (.Call (.Name x np) (e :: es) [] cpos)) none pos) (tRaise C E t) := by
  intro pins s1 σ H1 D I h
  obtain ⟨hm, hi⟩ := hc
  obtain ⟨bm, n, nm, qn, bs, hd, sn, sub, ab, col, dd, k0, k1, k2, k3, k5, mN, hC, hN, hni, TL⟩ := exc_of_in I.ok.mod.kin hi
  refine wpAny_Raise_call_subU (C := C) (N := n) (bm := bm) (bmB := veBase) (nm := nm) (q := qn) (bs := bs) (hdct := hd) (sn := sn) (sub := sub) (ab := ab) (col := col) (dd := dd) (k0 := k0) (k1 := k1) (k2 := k2) (k3 := k3) (k5 := k5) F.excBase_ValueError (by decide +kernel) F.excBase_ValueError (TL.hasType (by decide +kernel)) (I.ok.hd rfl) hpl hni ?_
  refine ld_glob I hg hm ⟨rfl, ?_⟩ hdb
  have hA : wpAny (model P w) (A.deeper (envOfC qual scope s.heap.objs.size f cd)) (spliced (backTo cpos (starEach (e :: es) (envOfC qual scope s.heap.objs.size f cd)))) _ _ s1 := ha cpos pins s1 σ H1 _ I h
  show wpAny (model P w) (A.deeper (envOfC qual scope s.heap.objs.size f cd)) (evalArgs (.ref C) true (backTo cpos (starEach (e :: es) (envOfC qual scope s.heap.objs.size f cd))) []) _ _ s1
  rw [he] at hA ⊢
  refine Calls.evalArgs_plain (thn hA fun us s2 hq => ?_)
  obtain ⟨vs, H2, I2, r, z, q⟩ := hq
  refine ⟨rfl, by rw [← r.length]; exact Nat.le_trans z (by decide), I2.bk _ _ hC, hN.keeps I2.bk, TL.keeps I2.bk, fun h' e hx => raised (tk := s2.toks) I2 hx q⟩
end
end L2
namespace L2
open PySem PySem.Spec PyProof.Rows
theorem FdAt.one {K : PySem.W.Frag} {f : Addr} {fd fd' : FuncData} (a : FdAt K f fd) (b : FdAt K f fd') : fd = fd' := by
  obtain ⟨_, _, _, e⟩ := a
  obtain ⟨_, _, _, e'⟩ := b
  rw [e] at e'
  injection e' with e'
  injection e' with _ _ e' _
  injection e'
def FnX (P : Program) (w : World) (K : PySem.W.Frag) (mg : Str → Option Value) (base : Heap) (k : Nat) (x : Str) (ps : List Str) (sp : Sp) : Prop :=
  ∃ f fd, mg x = some (.ref f) ∧ PySem.W.keepIn K (.ref f) = true ∧ Binds K fd ps [] ∧ FnOk P w K mg base (CXE P w) k f fd ps sp ∧ FdAt K f fd
section
variable {P : Program} {w : World} {K : PySem.W.Frag} {mg : Str → Option Value} {base : Heap} {x : Str} {st : Stmt} {N ps : List Str} {k : Nat} {sp sp' : Sp}
theorem FnP.toX (F : FnP P w K mg base k x ps sp) : FnX P w K mg base k x ps sp := by
  obtain ⟨f, fd, hm, hk, hb, G, ha⟩ := F
  refine ⟨f, fd, hm, hk, hb, ⟨G.len, fun A outer s H args us vs Q E hr e0 hbd hv hs => codeAny_mono (G.run A outer s H args us vs Q E hr e0 hbd hv hs) fun r s' hq => ?_⟩, ha⟩
  cases r with
  | ok fl => cases fl <;> exact hq
  | error e => exact False.elim hq
theorem FnX.mono {j : Nat} (F : FnX P w K mg base j x ps sp) (h : j ≤ k) : FnX P w K mg base k x ps sp := by
  obtain ⟨f, fd, hm, hk, hb, G, ha⟩ := F
  exact ⟨f, fd, hm, hk, hb, G.mono h, ha⟩
theorem FnX.or (F : FnX P w K mg base k x ps sp) (F' : FnX P w K mg base k x ps sp') : FnX P w K mg base k x ps fun vs H Q E => sp vs H Q E ∨ sp' vs H Q E := by
  obtain ⟨f, fd, hm, hk, hb, G, ha⟩ := F
  obtain ⟨f', fd', hm', hk', hb', G', ha'⟩ := F'
  rw [hm] at hm'
  cases hm'
  cases ha.one ha'
  refine ⟨f, fd, hm, hk, hb, ⟨fun vs H Q E h => ?_, fun A outer s H args us vs Q E hr e0 hbd hv hs => ?_⟩, ha⟩
  · rcases h with h | h
    · exact G.len _ _ _ _ h
    · exact G'.len _ _ _ _ h
  · rcases hs with h | h
    · exact G.run A outer s H args us vs Q E hr e0 hbd hv h
    · exact G'.run A outer s H args us vs Q E hr e0 hbd hv h
theorem FnX.imp (F : FnX P w K mg base k x ps sp) (h : ∀ vs H Q E, sp' vs H Q E → sp vs H Q E) : FnX P w K mg base k x ps sp' := by
  obtain ⟨f, fd, hm, hk, hb, G, ha⟩ := F
  exact ⟨f, fd, hm, hk, hb, G.imp h, ha⟩
theorem DefT.okX (D : DefT K mg x st ps) (S : FnScope N ps (defScope st)) (len : ∀ vs H Q E, sp vs H Q E → vs.length = ps.length)
    (hbody : ∀ (f : Addr) (cdv : Value) (A : Around) (outer : List Env) (s : Shared) (H : Hp) (vs : List V) (Q : VK) (E : XK), Room k (A.deeper (envOfC x (defScope st) s.heap.objs.size f cdv)) → sp vs H Q E →
      ∃ t, PSs (cxOf (CXE P w) P w K mg base N x (defScope st) f cdv A outer s H E) (defBody st) t ∧ t { nx := fun _ H' => Q .non H', rt := Q } (start N vs) H) : FnX P w K mg base (k + 1) x ps sp := by
  obtain ⟨f, fd, hm, F, b⟩ := D
  obtain ⟨oc, od, kV, doc, pm, an, cdv, ct, osl, rfl, lk, hcd⟩ := id F.ex
  exact ⟨f, _, hm, F.kp, b, fn_of lk hcd S len fun A outer s H vs Q E hr h => hbody f cdv A outer s H vs Q E hr h, F.at⟩
end
section
variable {X : Cx} {k : Nat} {x : Str} {ps : List Str} {sp : Sp} {p pos : Pos} {e : Expr} {es : List Expr} {t : TA} {E : XK}
theorem pe_fnX (F : FnX X.prog X.w X.K X.mg X.base k x ps sp) (hr : Room k X.A) (hx : Passes (CXE X.prog X.w) X E) (hg : Gl X x) (ha : PA X (e :: es) t) (hdb : (x == ("__debug__" : Str)) = false := by decide)
    (he : starEach (e :: es) X.env = (false, eval e X.env) :: starEach es X.env := by rfl) (hpl : (backTo pos (starEach es X.env)).any (·.1) = false := by rfl) : PE X (.Call (.Name x p) (e :: es) [] pos) (tCall sp [] E t) := by
  obtain ⟨f, fd, hm, hk, hb, G, _⟩ := F
  exact pe_call G hr hg hm hk hb .nil hx ha hdb he hpl
end
theorem pass_self {P : Program} {w : World} {K : PySem.W.Frag} {mg : Str → Option Value} {base : Heap} {N : List Str} {qual : Str} {scope : Scope} {f : Addr} {cd : Value} {A : Around} {outer : List Env} {s : Shared} {H : Hp} {E : XK} :
    Passes (CXE P w) (cxOf (CXE P w) P w K mg base N qual scope f cd A outer s H E) E := pass_on fun _ _ _ h => h
abbrev Cx.pinned (X : Cx) (pins : List (Addr × Obj)) : Cx := { X with pn := X.pn ++ pins }
theorem Cx.Ok.pinned {X : Cx} (ok : X.Ok) (pins : List (Addr × Obj)) : (X.pinned pins).Ok :=
  ⟨ok.mod, ok.kind, ok.glob, ok.blt, ok.above, ok.inj, ok.has, ok.cab, ok.hd, ok.frames, ok.stk, ok.exf, ok.bs, ok.bsz, ok.noex, ok.exfs, ok.funs, ok.frf⟩
theorem Cx.Ok.unpinned {X : Cx} {pins : List (Addr × Obj)} (ok : (X.pinned pins).Ok) : X.Ok :=
  ⟨ok.mod, ok.kind, ok.glob, ok.blt, ok.above, ok.inj, ok.has, ok.cab, ok.hd, ok.frames, ok.stk, ok.exf, ok.bs, ok.bsz, ok.noex, ok.exfs, ok.funs, ok.frf⟩
theorem Inv.pinAll {X : Cx} {pins : List (Addr × Obj)} {σ : St} {H : Hp} {s : Shared} (I : Inv X pins σ H s) : Inv (X.pinned pins) [] σ H s :=
  ⟨I.ok.pinned pins, I.os, I.bare, I.base, I.loc, I.cell, I.free, I.freeC, fun p hp => I.pin p (by simpa using hp), I.hok, I.len⟩
theorem Inv.unpinAll {X : Cx} {pins pins' : List (Addr × Obj)} {σ : St} {H : Hp} {s : Shared} (I : Inv (X.pinned pins) pins' σ H s) : Inv X pins σ H s :=
  ⟨I.ok.unpinned, I.os, I.bare, I.base, I.loc, I.cell, I.free, I.freeC, fun p hp => I.pin p (List.mem_append_left _ hp), I.hok, I.len⟩
def Lies (X : Cx) (E : XK) : Value → Shared → Prop := fun e s2 => ∃ pins σ H1 s1, Inv X pins σ H1 s1 ∧ CXE X.prog X.w X.stack H1 s1 E e s2
theorem pass_lies {X : Cx} {E : XK} : Passes (CXE X.prog X.w) (X.wish (Lies X E)) E := fun pins σ H s e s' I h => ⟨pins, σ, H, s, I.unwish, h⟩
abbrev Cx.hot (X : Cx) (A : Around) (xe : Value → Shared → Prop) : Cx := { X with A := A, calm := false, xe := xe }
theorem Inv.hot {X : Cx} {pins : List (Addr × Obj)} {σ : St} {H : Hp} {s : Shared} {A : Around} {xe : Value → Shared → Prop} (I : Inv X pins σ H s) (hf : A.frames = X.A.frames) : Inv (X.hot A xe) pins σ H s :=
  ⟨⟨I.ok.mod, I.ok.kind, I.ok.glob, I.ok.blt, I.ok.above, I.ok.inj, I.ok.has, I.ok.cab, (fun z => by cases z), hf.trans I.ok.frames, I.ok.stk, I.ok.exf, I.ok.bs, I.ok.bsz, I.ok.noex, I.ok.exfs, I.ok.funs, I.ok.frf⟩,
    I.os, I.bare, I.base, I.loc, I.cell, I.free, I.freeC, I.pin, I.hok, I.len⟩
def excO (ea : Addr) (cls : Value) : HO := .ext fun h => ∃ o, h.get? ea = some o ∧ o.cls = cls
end L2
namespace L2
open PySem PySem.Spec PyProof.Rows
section
variable {X : Cx} {pins : List (Addr × Obj)} {σ : St} {H H' : Hp} {s s2 : Shared} {B h3 : Heap} {ea : Addr} {cls a0 : Value} {E : XK}
theorem Inv.landed (I : Inv X pins σ H s) (os : s2.os = s.os) (bare : AllBare s2.gens) (un : Un (frs X.stack) [] H H' s.heap s2.heap) (ok : HOk X.prog X.w H' B) (hB : ∀ b o, s.heap.get? b = some o → b ∉ frs X.stack → ∃ o', B.get? b = some o')
    (k2 : ∀ b o, B.get? b = some o → s2.heap.get? b = some o) (k3 : ∀ b o, B.get? b = some o → h3.get? b = some o) (sl : s2.heap.UpToSlots h3) : Inv X pins σ H' { s2 with heap := h3 } := by
  refine I.call' (s' := { s2 with heap := h3 }) (ch := []) os ?_ (ok.kept k3) bare fun b z => absurd z (by simp)
  refine un_slots un hB k2 k3 sl (fun b hb o q => ?_) I.stkFree
  obtain ⟨_, o', e, nf⟩ := I.stack.mem hb
  rw [q] at e
  cases e
  exact nf
theorem Inv.trackX (I : Inv X pins σ H s) (hn : H ea = none) (h0 : X.s₀.heap.get? ea = none) (hl : ea ≠ X.env.locals) (hc : ∀ x c, X.env.cells.lookup x = some c → c ≠ ea) (hp : ∀ p ∈ X.pn ++ pins, p.1 ≠ ea) {o : Obj} (e : s.heap.get? ea = some o) (ec : o.cls = cls) :
    Inv X pins σ (upd H ea (excO ea cls)) s := by
  have ne : ∀ b u, H b = some u → b ≠ ea := fun b u q => ne_of_none q hn
  have n0 : ∀ b o, X.s₀.heap.get? b = some o → b ≠ ea := fun b o q z => by rw [z, h0] at q; cases q
  refine ⟨I.ok, I.os, I.bare, ⟨I.base.keep, I.base.slot, fun b o q n hx => ?_, I.base.there, fun b xs q => ?_, fun b o u q => ?_, fun b ps q => ?_⟩, I.loc, I.cell, by rw [upd_ne (Ne.symm hl)]; exact I.free, fun x c z => by rw [upd_ne (hc x c z)]; exact I.freeC x c z, fun p z => ?_, fun b u q => ?_, I.len⟩
  · rw [upd_ne (n0 b o q)]
    exact I.base.free b o q n hx
  · have := I.base.tups b xs q
    rw [upd_ne (ne b _ this)]
    exact this
  · have := I.base.frzs b o u q
    rw [upd_ne (ne b _ this)]
    exact this
  · obtain ⟨more, this⟩ := I.base.tbls b ps q
    exact ⟨more, by rw [upd_ne (ne b _ this)]; exact this⟩
  · obtain ⟨z1, z2, z3⟩ := I.pin p z
    exact ⟨z1, by rw [upd_ne (hp p z)]; exact z2, z3⟩
  · by_cases hb : b = ea
    · subst hb
      rw [upd_same] at q
      cases q
      exact ⟨⟨o, e, ec⟩, ⟨o, e⟩, fun h1 h2 ⟨o1, e1, c1⟩ k => ⟨o1, k o1 e1, c1⟩⟩
    · rw [upd_ne hb] at q
      exact (I.hok b u q).stay (fun c v _ z => z) (fun c z => by rw [upd_ne (ne c _ z)]; exact z) fun c xs z => by rw [upd_ne (ne c _ z)]; exact z
theorem ObjOk.some {P : Program} {w : World} {h : Heap} {a : Addr} {o : HO} (x : ObjOk P w H h a o) : ∃ ob, h.get? a = some ob := by
  cases o with
  | lst xs => obtain ⟨_, _, _, _, e⟩ := x; exact ⟨_, e⟩
  | tup xs => obtain ⟨_, _, _, o, e, _⟩ := x; exact ⟨o, e⟩
  | dK kvs => obtain ⟨_, _, _, _, o, _, _, e, _⟩ := x; exact ⟨o, e⟩
  | dT kvs => obtain ⟨_, _, _, _, o, _, _, e, _⟩ := x; exact ⟨o, e⟩
  | set S n => obtain ⟨o, _, _, _, e, _⟩ := x; exact ⟨o, e⟩
  | ins C dx fs => obtain ⟨_, _, _, e, _⟩ := x; exact ⟨_, e⟩
  | own y => exact x
  | xd fs => obtain ⟨_, ⟨o, _, _, e, _⟩, _⟩ := x; exact ⟨o, e⟩
  | rng lo hi => obtain ⟨_, _, _, e⟩ := x; exact ⟨_, e⟩
  | frz ob u => obtain ⟨e, _⟩ := x; exact ⟨_, e⟩
  | tbl ps => exact ⟨_, x⟩
  | met f y => exact ⟨_, x⟩
  | ext φ => obtain ⟨_, e, _⟩ := x; exact e
theorem Inv.gone {i : Nat} {n : Str} {h' : Heap} {t' : Nat} {m : Str → Option Value} {v : Option Value} (I : Inv X pins σ H s) (hi : X.N[i]? = some n) (hN : X.N.Nodup)
    (hm : ∀ (j : Nat) (x : Str) (u : V), X.N[j]? = some x → σ[j]? = some (some u) → Vis X.env.scope x → ∃ w, RelV u w ∧ Look X.env s.heap m x w) (hn : h'.Ns X.env.locals (fun x => if x = n then v else m x)) (hs : Heap.SameBut X.env.locals s.heap h') :
    Inv X pins (σ.set i none) H { s with heap := h', toks := t' } := by
  have old : ∀ b o, X.s₀.heap.get? b = some o → b ≠ X.env.locals := fun b o q z => by
    have := Nat.lt_of_lt_of_le (Heap.lt_size q) I.ok.above
    rw [z] at this
    exact absurd this (Nat.lt_irrefl _)
  have kp : ∀ b o, b ≠ X.env.locals → s.heap.get? b = some o → h'.get? b = some o := fun b o hb q => (hs.2 b hb).trans q
  have trk : ∀ b u, H b = some u → b ≠ X.env.locals := fun b u q => ne_of_none q I.free
  have cl : ∀ x c w, X.env.cells.lookup x = some c → s.heap.IsCell c w → h'.IsCell c w := fun x c w e q => q.sameBut hs (I.cne x c e)
  refine ⟨I.ok, I.os, I.bare, ⟨fun b o q n hb hx => kp b o (old b o q) (I.base.keep b o q n hb hx), fun b o q n hb hx => ?_, I.base.free, fun b o q hx => ?_, I.base.tups, I.base.frzs, I.base.tbls⟩, ⟨_, hn, fun j x u e1 e2 e3 => ?_⟩, fun x c e => ?_, I.free, I.freeC, fun p hp => ?_, fun a o e => ?_, ?_⟩
  · obtain ⟨l, e⟩ := I.base.slot b o q n hb hx
    exact ⟨l, kp b _ (old b o q) e⟩
  · obtain ⟨o', e⟩ := I.base.there b o q hx
    exact ⟨o', kp b o' (old b o q) e⟩
  · have hji : j ≠ i := fun z => by
      subst z
      rw [List.getElem?_set] at e2
      split at e2
      · split at e2 <;> cases e2
      · exact absurd rfl (by assumption)
    rw [List.getElem?_set_ne (Ne.symm hji)] at e2
    obtain ⟨w, r, l⟩ := hm j x u e1 e2 e3
    have hxn : x ≠ n := fun z => hji (nodup_ix hN e1 (z ▸ hi))
    refine ⟨w, r, ?_⟩
    rcases l with ⟨k, l⟩ | ⟨k, c, e, l⟩
    · exact .inl ⟨k, by show (if x = n then v else m x) = some w; rw [if_neg hxn]; exact l⟩
    · exact .inr ⟨k, c, e, cl x c _ e l⟩
  · obtain ⟨w, l⟩ := I.cell x c e
    exact ⟨w, cl x c w e l⟩
  · obtain ⟨e, n, ne, nf, d⟩ := I.pin p hp
    exact ⟨kp _ _ ne e, n, ne, nf, d⟩
  · refine (I.hok a o e).stay (fun b u hb q => kp b u ?_ q) (fun _ z => z) fun _ _ z => z
    rcases hb with rfl | hb
    · exact trk _ _ e
    · exact trk _ _ hb
  · rw [List.length_set]
    exact I.len
end
def endsLess (D : Ends) (i : Nat) : Ends := ⟨fun σ H => D.nx (σ.set i none) H, D.rt, fun σ H => D.bk (σ.set i none) H, fun σ H => D.ct (σ.set i none) H⟩
def tTryAs (i : Nat) (E : XK) (tb ts : TS) : TS := fun D σ H => tb D σ H ∧ ∀ (cls : Value) (σ' : St) (H' : Hp) (ea : Addr), σ'.length = σ.length → E cls none H' → H' ea = none → ts (endsLess D i) (σ'.set i (some (.ref ea))) (upd H' ea (excO ea cls))
section
variable {X : Cx} {E : XK} {tb ts : TS} {i : Nat} {x n : Str} {C : Addr} {body suite : List Stmt} {b₀ : Stmt} {np hpos pos : Pos}
theorem ps_tryAs (hex : X.ex = []) (hst : X.stack = X.env :: X.outer) (hfr : X.env.frame = some X.env.locals) (hN : X.N.Nodup) (hi : X.N[i]? = some n) (hn : X.env.scope.names.lookup n = some .local) (hg : Gl X x) (hm : X.mg x = some (.ref C))
    (hE : ∀ cls d H', E cls d H' → PySem.W.exmOne X.K cls (.ref C) = some true) (hb : ∀ pins, PSs ((X.pinned pins).wish (Lies (X.pinned pins) E)) body tb)
    (hs : ∀ (pins : List (Addr × Obj)) (ea : Addr), PSs ((X.pinned pins).hot (X.A.mark (some (.ref ea))) fun _ _ => False) (b₀ :: suite) ts) (hp : (X.env.scope.kind == .class || (X.env.scope.kind == .module && X.env.locals != X.env.globals)) = false)
    (hdb : (x == ("__debug__" : Str)) = false := by decide) : PS X (.Try body [.ExceptHandler (some (.Name x np)) (some n) (b₀ :: suite) hpos] [] [] pos) (tTryAs i E tb ts) := by
  intro pins s σ H D I h
  obtain ⟨h1, h2⟩ := h
  refine wpAny_Try_except (wpAny_mono (hb pins [] s σ H D (I.pinAll.wish _) h1) (fun f s1 q => ?_) fun e s1 q => ?_)
  · cases f with
    | next => obtain ⟨σ', H', I', q⟩ := q; exact wpAny_execs_nil ⟨σ', H', I'.unwish.unpinAll, q⟩
    | brk => obtain ⟨σ', H', I', q⟩ := q; exact ⟨σ', H', I'.unwish.unpinAll, q⟩
    | cont => obtain ⟨σ', H', I', q⟩ := q; exact ⟨σ', H', I'.unwish.unpinAll, q⟩
    | ret v => obtain ⟨u, σ', H', I', r, q⟩ := q; exact ⟨u, σ', H', I'.unwish.unpinAll, r, q⟩
  · obtain ⟨pins', σ1, H1, s0, I0, ea, cls, a0, B, H', rfl, os, bare, un, ok, hB, fl, qE⟩ := q
    have hstk : (X.pinned pins).stack = X.env :: X.outer := hst
    have hfrm : X.A.frames = some (X.env :: X.outer) := by rw [← hst]; exact I.ok.frames
    have fl0 : Heap.FlyingW B (X.env :: X.outer) ea cls a0 s1.heap := by rw [← hst]; exact fl
    have land : ∀ h3, (∀ b o, B.get? b = some o → h3.get? b = some o) → s1.heap.UpToSlots h3 → Inv (X.pinned pins) pins' σ1 H' { s1 with heap := h3 } := fun h3 k3 sl => I0.landed os bare un ok hB fl.1 k3 sl
    refine wpAny_looks_onW (L := X.env.locals) hfrm hfr fl0 fun h4 held sl4 => ?_
    refine wpAny_landsW held fun h5 fl5 sl5 => ?_
    refine wpAny_handleBy_cons (codeAny_handlers_test ?_) (by intro z; cases z)
    have J5 := (land h5 fl5.1 (sl4.trans sl5)).hot (A := X.A.mark (some (.ref ea))) (xe := fun _ _ => False) rfl
    refine ld_glob (X := (X.pinned pins).hot (X.A.mark (some (.ref ea))) fun _ _ => False) J5 hg hm ?_ hdb
    obtain ⟨ob, hob, hoc⟩ := fl5.there
    have LT : PySem.W.Looks (model X.prog X.w) h5 (typeOf (.ref ea)) cls := fun A Q E s' k q => by
      unfold typeOf
      first
        | exact wpAny_bind (wpAny_loadPart (k _ _ hob) (wpAny_pure (by rw [hoc]; exact q)))
        | exact wpAny_bind (wpAny_load (k _ _ hob) (wpAny_pure (by rw [hoc]; exact q)))
    refine PySem.W.Looks.here (s := { s1 with heap := h5 }) (PySem.W.exm_one J5.kIn LT (hE _ _ _ qE)) ?_
    show codeAny _ _ _ _ _
    refine codeAny_handlers_suite_as ?_
    refine lands_againW fl5 fun h6 fl6 sl6 => ?_
    have J6 := land h6 fl6.1 ((sl4.trans sl5).trans sl6)
    obtain ⟨oe, hoe, hoec⟩ := fl6.there
    have heN : H' ea = none := by
      cases z : H' ea with
      | none => rfl
      | some u =>
        obtain ⟨o, e⟩ := (ok ea u z).some
        rw [fl.2.1] at e
        cases e
    have new : s0.heap.get? ea = none := by
      cases z : s0.heap.get? ea with
      | none => rfl
      | some o =>
        by_cases hf : ea ∈ frs (X.pinned pins).stack
        · obtain ⟨_, o1, e1, nf⟩ := fl.2.2.1.mem hf
          obtain ⟨oe', vs', e2, _, e3, _⟩ := fl.first
          rw [e1] at e2
          cases e2
          exact absurd e3 (nf vs')
        · obtain ⟨o', e'⟩ := hB ea o z hf
          rw [fl.2.1] at e'
          cases e'
    have new0 : (X.pinned pins).s₀.heap.get? ea = none := by
      cases z : (X.pinned pins).s₀.heap.get? ea with
      | none => rfl
      | some o =>
        obtain ⟨o', e'⟩ := I0.base.there ea o z (by rw [show (X.pinned pins).ex = [] from hex]; simp)
        rw [new] at e'
        cases e'
    have nl : ea ≠ X.env.locals := fun z => by
      obtain ⟨m, ⟨o, _, _, e, _⟩, _⟩ := I0.loc
      have e' : s0.heap.get? X.env.locals = some o := e
      rw [← z, new] at e'
      cases e'
    have ncl : ∀ x c, X.env.cells.lookup x = some c → c ≠ ea := fun x c q z => by
      obtain ⟨v, o, e, _⟩ := I0.cell x c q
      rw [z, new] at e
      cases e
    have npn : ∀ p ∈ (X.pinned pins).pn ++ pins', p.1 ≠ ea := fun p q z => by
      have e := (I0.pin p q).1
      rw [z, new] at e
      cases e
    have J7 := (J6.trackX heN new0 nl ncl npn hoe hoec).hot (A := X.A.mark (some (.ref ea))) (xe := fun _ _ => False) rfl
    refine store_ok (X := (X.pinned pins).hot (X.A.mark (some (.ref ea))) fun _ _ => False) J7 hN hi (Or.inl hn) (v := .ref ea) rfl (fun s8 J8 => ?_) (.inr hn)
    have q2 := h2 cls σ1 H' ea (by rw [J6.len, I.len]) qE heN
    refine wpAny_mono (hs pins ea pins' s8 _ _ (endsLess D i) J8 q2) (fun f s9 q9 => ?_) fun _ _ z => False.elim z
    have fin : ∀ {σ9 : St} {H9 : Hp} {R : Flow → Shared → Prop}, Inv ((X.pinned pins).hot (X.A.mark (some (.ref ea))) fun _ _ => False) pins' σ9 H9 s9 → (∀ s10, Inv X pins (σ9.set i none) H9 s10 → R f s10) →
        wpAny (model X.prog X.w) X.A (do bindName X.env n .none; unbindBehindTheSuite X.env n hpos) (fun _ s10 => R f s10) X.xe s9 := fun {σ9 H9 R} J9 k => by
      have J9' : Inv X pins σ9 H9 s9 := by
        have I1 : Inv (X.pinned pins) pins' σ9 H9 s9 := ⟨⟨J9.ok.mod, J9.ok.kind, J9.ok.glob, J9.ok.blt, J9.ok.above, J9.ok.inj, J9.ok.has, J9.ok.cab, I0.ok.hd, I0.ok.frames, J9.ok.stk, J9.ok.exf, J9.ok.bs, J9.ok.bsz, J9.ok.noex, J9.ok.exfs, J9.ok.funs, J9.ok.frf⟩,
          J9.os, J9.bare, J9.base, J9.loc, J9.cell, J9.free, J9.freeC, J9.pin, J9.hok, J9.len⟩
        exact I1.unpinAll
      obtain ⟨m, hm1, hm2⟩ := J9'.loc
      exact wpAny_nameGoes_keeps hn hm1 hp fun h10 v hn10 hs10 => k _ (J9'.gone hi hN hm2 hn10 hs10)
    cases f with
    | next => obtain ⟨σ9, H9, J9, q⟩ := q9; exact fin J9 fun s10 J10 => ⟨_, _, J10, q⟩
    | brk => obtain ⟨σ9, H9, J9, q⟩ := q9; exact fin J9 fun s10 J10 => ⟨_, _, J10, q⟩
    | cont => obtain ⟨σ9, H9, J9, q⟩ := q9; exact fin J9 fun s10 J10 => ⟨_, _, J10, q⟩
    | ret v => obtain ⟨u, σ9, H9, J9, r, q⟩ := q9; exact fin J9 fun s10 J10 => ⟨u, _, _, J10, r, q⟩
end
end L2
namespace L2
open PySem PySem.Spec PyProof.Rows PySem.W PySem.Builtin PySem.Builtin.ObjectAttr PySem.Builtin.Getset_descriptor
structure ExcK (K : PySem.W.Frag) (C : Addr) : Prop where
  ga : findIn K (.ref C) "__getattribute__" = some (some (.builtin "BaseException.__getattribute__"))
  gt : findIn K (.ref C) "__getattr__" = some none
  ca : findIn K (.ref C) "__class__" = some (some (.builtin "object.__class__"))
  gs : specialIn K (.builtin "object.__class__") "__get__" = some (some (.builtin "getset_descriptor.__get__"))
  tk : takesIn K (.builtin "object.__class__") = some true
  mo : mroIn K C (.type "object") = some true
  mb : mroIn K C (.type "BaseException") = some true
section
variable {prog : Program} {w : World} {A : Around} {E : Value → Shared → Prop} {s : Shared} {K : PySem.W.Frag} {x C : Addr} {R : Result → Shared → Prop}
theorem cls_get {tp : Value} (X : K.In s.heap) (L0 : Looks (model prog w) s.heap (typeOf (.ref x)) (.ref C)) (Z : ExcK K C) (h : R (.ok (.ret (.ref C))) s) : codeAny (model prog w) A (.call (.builtin "getset_descriptor.__get__") ⟨[.builtin "object.__class__", .ref x, tp], []⟩) R s := by
  have L1 := looks_mroIn (M := model prog w) X Z.mo
  obtain ⟨hh, g, dr, t, os⟩ := s
  refine codeAny_call_builtin KF.slot_gs.plain KF.entry_gs (KF.slot_gs.check _ _ _ _ _ _ _ _ KF.type_class (KF.args_gs _ _ _) ?_)
  unfold Builtin.«getset_descriptor.__get__» descrGet; rw [dga_obj]; refine wpAny_bind (wpAny_pure ?_)
  unfold descrGetter descrCheckInstance descrNameAndClass isInstance; simp only [KF.owner_class]
  repeat lk
  refine ⟨Code.quiet_builtin _ (by decide +kernel), codeAny_builtin KF.entry_class ?_⟩
  unfold Builtin.«object.__class__» shownTypeOf; repeat lk
  exact h
theorem ga_check {nameV : Value} {Q : Unit → Shared → Prop} (X : K.In s.heap) (L0 : Looks (model prog w) s.heap (typeOf (.ref x)) (.ref C)) (Z : ExcK K C) (h : Q () s) : wpAny (model prog w) A (checkBuiltinCall "BaseException.__getattribute__" ⟨[.ref x, nameV], []⟩) Q E s := by
  have L1 := looks_mroIn (M := model prog w) X Z.mb
  obtain ⟨hh, g, dr, t, os⟩ := s
  have k1 : builtinKind "BaseException.__getattribute__" = some .slot := by decide +kernel
  have k2 : splitId "BaseException.__getattribute__" = some ("BaseException", "__getattribute__") := by decide +kernel
  have k3 := F.args_bexc_ga (.ref x) nameV
  simp only [checkBuiltinCall, k1, k2]; unfold isInstance
  repeat (first | lk | wp_step)
  exact h
theorem ga_entry {tk : Tok} {Q : Fin → Shared → Prop} (X : K.In s.heap) (L0 : Looks (model prog w) s.heap (typeOf (.ref x)) (.ref C)) (Z : ExcK K C) (h : Q (.done (.ret (.ref C))) s) : wpAny (model prog w) A (Builtin.«object.__getattribute__» ⟨[.ref x, .str "__class__" tk], []⟩) Q E s := by
  have L1 := looks_findIn (M := model prog w) X Z.ca
  have L2 := looks_specialIn (M := model prog w) X Z.gs
  have L3 := looks_takesIn (M := model prog w) X Z.tk
  obtain ⟨hh, g, dr, t, os⟩ := s
  unfold Builtin.«object.__getattribute__»
  repeat (first | with_reducible refine wpAny_call ?_ | lk)
  refine codeAny_mono (cls_get (s := ⟨hh, g, dr, t, os⟩) X L0 Z (R := fun r s' => r = .ok (.ret (.ref C)) ∧ s' = ⟨hh, g, dr, t, os⟩) ⟨rfl, rfl⟩) fun r s' q => ?_
  obtain ⟨rfl, rfl⟩ := q
  repeat lk
  exact h
theorem ga_call {tk : Tok} (X : K.In s.heap) (L0 : Looks (model prog w) s.heap (typeOf (.ref x)) (.ref C)) (Z : ExcK K C) (h : R (.ok (.ret (.ref C))) s) : codeAny (model prog w) A (.call (.builtin "BaseException.__getattribute__") ⟨[.ref x, .str "__class__" tk], []⟩) R s :=
  codeAny_call_builtin F.attr_ValueError.ga.plain F.entry_bexc_ga (ga_check X L0 Z (ga_entry X L0 Z h))
theorem cls_attr {Q : Option Value → Shared → Prop} (X : K.In s.heap) (L0 : Looks (model prog w) s.heap (typeOf (.ref x)) (.ref C)) (Z : ExcK K C) (h : Q (some (.ref C)) { s with toks := s.toks + 1 }) : wpAny (model prog w) A (getAttr? (.ref x) "__class__") Q E s := by
  have L1 := looks_findIn (M := model prog w) X Z.ga
  have L2 := looks_findIn (M := model prog w) X Z.gt
  obtain ⟨hh, g, dr, t, os⟩ := s
  have b1 := F.attr_ValueError.ga.bind (.ref x)
  have b2 : (onTheHeap (Value.ref C) && Value.builtin "BaseException.__getattribute__" == Value.builtin "object.__getattribute__") = false := by
    rw [show (Value.builtin "BaseException.__getattribute__" == Value.builtin "object.__getattribute__") = false from by decide +kernel]
    rfl
  unfold getAttr? getAttrBy? getAttrBy
  refine wpAny_bind (wpAny_mkText (wpAny_bind (wpAny_attempt (wpAny_holding (wpAny_bind (L0.at (wpAny_bind (L1.at ?_))))))))
  dsimp only
  rw [b2]
  unfold getAttrByItsOwn hookBefore callGetattribute boundAndCalled
  rw [if_neg Bool.false_ne_true, show onTheHeap (Value.ref C) = true from rfl, if_pos rfl]
  refine wpAny_bind (L2.at ?_)
  refine wpAny_bind (wpAny_attempt (wpAny_holding ?_))
  rw [if_neg (show ¬ (false && onTheHeap (Value.builtin "BaseException.__getattribute__")) = true from fun z => by cases z), b1]
  refine wpAny_bind (wpAny_pure ?_)
  refine wpAny_call (codeAny_mono (ga_call (s := ⟨hh, g, dr, t + 1, os⟩) X L0 Z (R := fun r s' => r = .ok (.ret (.ref C)) ∧ s' = ⟨hh, g, dr, t + 1, os⟩) ⟨rfl, rfl⟩) fun r s' q => ?_)
  obtain ⟨rfl, rfl⟩ := q
  refine handed_on rfl ?_
  exact wpAny_pure h
theorem kitx_exc (Z : ExcK K C) (hc : (clsIn K C).isSome = true) : KitX K (.ref x) (.ref C) (fun h => ∃ o, h.get? x = some o ∧ o.cls = .ref C) where
  ty := fun M h _ ⟨o, e, c⟩ => c ▸ (Looks.ld e).andThen .now
  it := fun M h X _ => by
    obtain ⟨cd, q⟩ := Option.isSome_iff_exists.mp hc
    unfold clsIn at q
    split at q
    · rename_i ho
      exact fun A' Q' E' s' k z => by
        unfold isType loadHead
        exact wpAny_bind (wpAny_loadPart (k _ _ (X _ _ ho)) (wpAny_pure z))
    · cases q
  ne := fun h tp dd its n sl X htp => by
    obtain ⟨cd, q⟩ := Option.isSome_iff_exists.mp hc
    refine Bool.eq_false_iff.mpr fun z => ?_
    have e : C = tp := Value.ref.inj (beq_iff_eq.mp z)
    subst e
    unfold clsIn at q
    split at q
    · rename_i ho
      have z := (X _ _ ho).symm.trans htp
      cases z
    · cases q
  ca := fun X ⟨o, e, c⟩ k => cls_attr X (c ▸ (Looks.ld e).andThen .now) Z k
end
section
variable {X : Cx}
theorem call_isinstX {C : Addr} (Z : ExcK X.K C) (hc : (clsIn X.K C).isSome = true) : CallR X (.builtin "isinstance") (fun xs H Q => ∃ ea c u b, xs = [.ref ea, c] ∧ H ea = some (excO ea (.ref C)) ∧ RelV c u ∧ (∀ u', RelV c u' → u' = u) ∧ kitOne X.K (.ref C) u = some b ∧ Q (.bl b) H) := by
  intro pins s σ H xs us Q I rv h
  obtain ⟨ea, c, u, b, rfl, he, rc, un, e, q⟩ := h
  obtain ⟨v1, v2, rfl, r1, r2⟩ := rv.two
  cases r1
  cases un _ r2
  obtain ⟨p, _, _⟩ := (show ObjOk X.prog X.w H s.heap ea (excO ea (.ref C)) from I.hok ea _ he)
  exact kia_one (kitx_exc Z hc) I.kIn p e (fun z => nomatch z) fun tk => ⟨.bl b, H, I.tok tk, rfl, q⟩
end
end L2
namespace L2
open PySem PySem.Spec PyProof.Rows
structure RoomH (k : Nat) (A : Around) : Prop where
  dp : A.depth + 3 * k + 5 < recursionLimit
  un : A.units + 16 * k + 200 < cLine
theorem RoomH.deeper {k : Nat} {A : Around} (r : RoomH (k + 1) A) (env : Env) : RoomH k (A.deeper env) :=
  ⟨by have := r.dp; show A.depth + 1 + 3 * k + 5 < _; omega, by have := r.un; show A.units + 3 + 16 * k + 200 < _; omega⟩
theorem Room.mark {k : Nat} {A : Around} (r : Room k A) (v : Option Value) : RoomH k (A.mark v) := ⟨r.dp, r.un⟩
structure FnOkH (P : Program) (w : World) (K : PySem.W.Frag) (mg : Str → Option Value) (base : Heap) (k : Nat) (f : Addr) (fd : FuncData) (ps : List Str) (sp : Sp) : Prop where
  len : ∀ vs H Q E, sp vs H Q E → vs.length = ps.length
  run : ∀ (A : Around) (outer : List Env) (s : Shared) (H : Hp) (args : Args) (us : List Value) (vs : List V) (Q : VK) (E : XK), RoomH k A → Env0 P w K mg base A outer s H → BindsTo s fd args (ps.zip us) → Vals vs us → sp vs H Q E →
    codeAny (model P w) A (.call (.ref f) args) (CR CX0 outer P w H s Q E) s
def FnH (P : Program) (w : World) (K : PySem.W.Frag) (mg : Str → Option Value) (base : Heap) (k : Nat) (x : Str) (ps : List Str) (sp : Sp) : Prop :=
  ∃ f fd, mg x = some (.ref f) ∧ PySem.W.keepIn K (.ref f) = true ∧ Binds K fd ps [] ∧ FnOkH P w K mg base k f fd ps sp
abbrev hotOf (P : Program) (w : World) (K : PySem.W.Frag) (mg : Str → Option Value) (base : Heap) (N : List Str) (x : Str) (sc : Scope) (f : Addr) (cdv : Value) (A : Around) (outer : List Env) (s : Shared) (H : Hp) (E : XK) : Cx :=
  (cxOf CX0 P w K mg base N x sc f cdv { A with handled := none } outer s H E).hot (A.deeper (envOfC x sc s.heap.objs.size f cdv)) fun _ _ => False
theorem DefT.okH {P : Program} {w : World} {K : PySem.W.Frag} {mg : Str → Option Value} {base : Heap} {x : Str} {st : Stmt} {N ps : List Str} {k : Nat} {sp : Sp} (D : DefT K mg x st ps) (S : FnScope N ps (defScope st)) (len : ∀ vs H Q E, sp vs H Q E → vs.length = ps.length)
    (hbody : ∀ (f : Addr) (cdv : Value) (A : Around) (outer : List Env) (s : Shared) (H : Hp) (vs : List V) (Q : VK) (E : XK), RoomH k (A.deeper (envOfC x (defScope st) s.heap.objs.size f cdv)) → sp vs H Q E →
      ∃ t, PSs (hotOf P w K mg base N x (defScope st) f cdv A outer s H E) (defBody st) t ∧ t { nx := fun _ H' => Q .non H', rt := Q } (start N vs) H) : FnH P w K mg base (k + 1) x ps sp := by
  obtain ⟨f, fd, hm, F, b⟩ := D
  obtain ⟨oc, od, kV, doc, pm, an, cdv, ct, osl, rfl, lk, hcd⟩ := id F.ex
  refine ⟨f, _, hm, F.kp, b, len, fun A outer s H args us vs Q E hr e0 hb r hsp => ?_⟩
  have hl := len _ _ _ _ hsp
  have KX : K.In s.heap := e0.mod.kin.keeps fun b o e => (e0.bs b o e).1
  have lim : s.heap.NoLimit := e0.mod.nolimit.keeps fun b o e => (e0.bs b o e).1
  have hkind : ∀ y ∈ ps.zip us, (defScope st).names.lookup y.1 = some .local ∨ ((defScope st).names.lookup y.1 = some .cell ∧ ((cellsFrom (s.heap.objs.size + 1) (defScope st).names []).lookup y.1).isSome = true) := fun ⟨n, v⟩ hy => by
    rcases S.par n (List.of_mem_zip hy).1 with q | q
    · exact .inl q
    · exact .inr ⟨q, PySem.W.cellsFrom_some _ _ _ (.inl q)⟩
  refine codeAny_call_function (by have := hr.dp; omega) (KX _ _ lk) rfl S.co S.gen rfl (PySem.W.codeRec_of KX hcd) (hb _ _ _ _ (wpAny_newFunctionEnv_cells S.kind hkind fun env he s1 y => ?_))
  subst he
  refine ⟨lim.keeps y.toInCall.keep, codeAny_func ?_⟩
  obtain ⟨t, ht, hq⟩ := hbody f cdv A outer s H vs Q E (hr.deeper _) hsp
  have e1 : Env0 P w K mg base { A with handled := none } outer s H := ⟨e0.frames, e0.mod, e0.bs, e0.bsz, e0.funs, e0.frf, e0.hok, e0.bare⟩
  have I0 : Inv (cxOf CX0 P w K mg base N x (defScope st) f cdv { A with handled := none } outer s H E) [] (start N vs) H s1 := inv_start S rfl e1 hl r y
  have I : Inv (hotOf P w K mg base N x (defScope st) f cdv A outer s H E) [] (start N vs) H s1 := I0.hot ((Around.frames_deeper e0.frames).trans (Around.frames_deeper e1.frames).symm)
  refine wpAny_mono (ht [] s1 (start N vs) H _ I hq) (fun fl s' hs => ?_) fun e s' z => False.elim z
  cases fl with
  | ret u => obtain ⟨v, σ', H', J, rv, q⟩ := hs; exact ⟨v, H', J.os, J.bare, J.base, J.hok, rv, q⟩
  | next => obtain ⟨σ', H', J, q⟩ := hs; exact ⟨.non, H', J.os, J.bare, J.base, J.hok, rfl, q⟩
  | brk => obtain ⟨_, _, _, q⟩ := hs; exact False.elim q
  | cont => obtain ⟨_, _, _, q⟩ := hs; exact False.elim q
section
variable {X : Cx} {k : Nat} {x : Str} {ps : List Str} {sp : Sp} {p pos : Pos} {e : Expr} {es : List Expr} {t : TA}
theorem pe_fnH (F : FnH X.prog X.w X.K X.mg X.base k x ps sp) (hr : RoomH k X.A) (hg : Gl X x) (ha : PA X (e :: es) t) (hdb : (x == ("__debug__" : Str)) = false := by decide)
    (he : starEach (e :: es) X.env = (false, eval e X.env) :: starEach es X.env := by rfl) (hpl : (backTo pos (starEach es X.env)).any (·.1) = false := by rfl) : PE X (.Call (.Name x p) (e :: es) [] pos) (tCall sp [] E0 t) := by
  obtain ⟨f, fd, hm, hk, hb, G⟩ := F
  intro pins s σ H Q I h
  refine wpAny_Call_Name_kw (ld_glob I hg hm ?_ hdb)
  refine PySem.W.callWith_K (h₀ := X.base) I.ok.mod.kin hk (thn (ha pos pins s σ H _ I h) fun us s1 ⟨vs, H1, I1, r, q⟩ => ⟨I1.kIn, ?_⟩) he hpl
  have q : sp (vs ++ []) H1 Q E0 := q
  rw [List.append_nil] at q
  have hl : us.length = ps.length := by rw [← r.length]; exact G.len _ _ _ _ q
  have hB : BindsTo s1 fd ⟨us, []⟩ (ps.zip us) := by
    have := hb s1 us I1.kIn (by rw [List.append_nil]; exact hl)
    rw [List.append_nil] at this
    exact this
  refine wpAny_call (codeAny_mono (G.run X.A X.stack s1 H1 ⟨us, []⟩ us vs Q E0 hr I1.env0 hB r q) fun r s' hq => ?_)
  cases r with
  | error e => exact False.elim hq
  | ok fl =>
    cases fl with
    | ret u => exact I1.after hq
    | next => exact False.elim hq
    | brk => exact False.elim hq
    | cont => exact False.elim hq
theorem bl_at {bs : List Bool} {us : List Value} (r : Vals (bs.map V.bl) us) {j : Nat} (h : j < us.length) (h' : j < bs.length) : us[j] = .bool bs[j] := by
  have hx : (bs.map V.bl)[j]? = some (V.bl bs[j]) := by rw [List.getElem?_map, List.getElem?_eq_getElem h']; rfl
  obtain ⟨u, h1, h2⟩ := r.get hx
  rw [List.getElem?_eq_getElem h] at h1
  cases h1
  exact h2
def isTru (v : Value) : Bool := match v with | .bool b => b | _ => false
theorem eq_tru {y : Value} {b : Bool} (h : y = .bool b) : MeetsSeq.EqGives y (.bool true) (isTru y) := by
  subst h
  have e : isTru (.bool b) = (b == true) := by cases b <;> rfl
  rw [e]
  exact fun prog w A E s Q z => PySem.SeqAt.EqAt.bool_bool (A := A) (s := s) b true prog w E Q z
theorem mem_bl {bs : List Bool} {us : List Value} (r : Vals (bs.map V.bl) us) {y : Value} (h : y ∈ us) : ∃ b, y = .bool b := by
  obtain ⟨j, hj, rfl⟩ := List.mem_iff_getElem.mp h
  have hl := r.length
  rw [List.length_map] at hl
  exact ⟨_, bl_at r hj (by omega)⟩
theorem count_bl : ∀ {bs : List Bool} {us : List Value}, Vals (bs.map V.bl) us → us.countP isTru = bs.countP id
  | [], _, .nil => rfl
  | b :: bs, _, .cons r t => by
    cases r
    rw [List.countP_cons, List.countP_cons, count_bl t]
    rfl
theorem mt_countT : MtM X "list.count" (fun x vs H Q => ∃ (l : Addr) (bs : List Bool), x = .ref l ∧ vs = [.bl true] ∧ H l = some (.lst (bs.map V.bl)) ∧ Q (.int (bs.countP id : Nat)) H) := by
  intro pins s σ H x vs v us Q I rx rv h
  obtain ⟨l, bs, rfl, rfl, hH, q⟩ := h
  cases rx
  obtain ⟨u, rfl, ru⟩ := rv.one
  cases ru
  obtain ⟨z, its, n, r, hl, e⟩ := I.lstM hH
  refine call_meets F.slot_list_count ⟨_, e, rfl⟩ F.entry_list_count (F.args_list_count_2 _ _) (MeetsSeq.list_count l its.toArray n (.bool true) isTru fun y hy => ?_) ⟨e, ?_⟩
  · obtain ⟨b, eb⟩ := mem_bl r (by simpa using hy)
    exact eq_tru eb
  · rw [show its.toArray.toList = its from rfl, count_bl r]
    exact ⟨.int _, H, I.tok _, ⟨_, rfl⟩, q⟩
theorem mt_indexT : MtM X "list.index" (fun x vs H Q => ∃ (l : Addr) (bs : List Bool) (k : Nat), x = .ref l ∧ vs = [.bl true] ∧ H l = some (.lst (bs.map V.bl)) ∧ bs[k]? = some true ∧ (∀ m, m < k → bs[m]? = some false) ∧ Q (.int k) H) := by
  intro pins s σ H x vs v us Q I rx rv h
  obtain ⟨l, bs, k, rfl, rfl, hH, h1, h2, q⟩ := h
  cases rx
  obtain ⟨u, rfl, ru⟩ := rv.one
  cases ru
  obtain ⟨z, its, n, r, hl, e⟩ := I.lstM hH
  rw [List.length_map] at hl z
  have hk : k < bs.length := (List.getElem?_eq_some_iff.mp h1).1
  have hz : bs.length ≤ 2 ^ 62 := Nat.le_trans z (by decide)
  have at' : ∀ {j : Nat} {b : Bool} (hj : j < its.length), bs[j]? = some b → its[j] = .bool b := fun {j b} hj hb => by
    have := bl_at r hj (by omega)
    rw [List.getElem?_eq_getElem (by omega)] at hb
    rw [this, Option.some.inj hb]
  refine call_meets F.slot_list_index ⟨_, e, rfl⟩ F.entry_list_index (F.args_list_index_2 _ _)
    (MeetsSeq.list_index l its.toArray n (.bool true) isTru (fun y hy => ?_) k (by rw [List.size_toArray]; omega) (by omega) ?_ (fun m hm hlt => ?_)) ⟨e, ⟨.int k, H, I.tok _, ⟨_, rfl⟩, q⟩⟩
  · obtain ⟨b, eb⟩ := mem_bl r (by simpa using hy)
    exact eq_tru eb
  · have : its.toArray[k]'(by rw [List.size_toArray]; omega) = .bool true := by simpa using at' (j := k) (by omega) h1
    rw [this]
    rfl
  · rw [List.size_toArray] at hm
    have : its.toArray[m]'(by rw [List.size_toArray]; omega) = .bool false := by simpa using at' (j := m) hm (h2 m hlt)
    rw [this]
    rfl
end
end L2
namespace L2
open PySem PySem.Spec PyProof.Rows
section
variable {X : Cx}
end
end L2
namespace SS
open PySem PySem.Spec PyProof.Rows
theorem entry_set_iter : entryFor table "set.__iter__" = some Builtin.«frozenset.__iter__» := entryFor_alias (id' := "frozenset.__iter__") (by kernel_rfl) rfl (by decide +kernel) (by kernel_rfl)
theorem entry_si_iter : entryFor table "set_iterator.__iter__" = some Builtin.«dict_keyiterator.__iter__» := entryFor_alias (id' := "dict_keyiterator.__iter__") (by kernel_rfl) rfl (by decide +kernel) (by kernel_rfl)
theorem slot_si_next : Slot "set_iterator" "__next__" "set_iterator.__next__" :=
  .of (owner := "set_iterator") (n := "__next__") (by rw [typeLookup_type, builtinLookup_eq_fast]; kernel_rfl) (by decide +kernel) (by decide +kernel) (by decide +kernel)
    (by first | exact .inl (by decide +kernel) | exact .inr (by decide +kernel)) (by rw [isSubtype_type]; kernel_rfl)
theorem slot_si_iter : Slot "set_iterator" "__iter__" "set_iterator.__iter__" :=
  .of (owner := "set_iterator") (n := "__iter__") (by rw [typeLookup_type, builtinLookup_eq_fast]; kernel_rfl) (by decide +kernel) (by decide +kernel) (by decide +kernel)
    (by first | exact .inl (by decide +kernel) | exact .inr (by decide +kernel)) (by rw [isSubtype_type]; kernel_rfl)
theorem entry_si_next : entryFor table "set_iterator.__next__" = some Builtin.«set_iterator.__next__» := entryFor_of_tree (by kernel_rfl)
theorem args_si_next (a : Value) : argsOk "set_iterator.__next__" ⟨[a], []⟩ := by unfold argsOk; kernel_rfl
theorem args_si_iter (a : Value) : argsOk "set_iterator.__iter__" ⟨[a], []⟩ := by unfold argsOk; kernel_rfl
theorem look_set_len : typeLookup (.type "set") "__len__" = pure (some (.builtin "set.__len__")) := by rw [typeLookup_type, builtinLookup_eq_fast]; kernel_rfl
def tb (led : Bool) (pl : Array Nat) : SetTable := { mask := 7, place := pl, dummies := #[], finger := 0, led := led, moves := 0, plain := true }
def subs : List (Array Nat) := [#[], #[0], #[1], #[0, 1], #[2], #[0, 2], #[1, 2], #[0, 1, 2], #[3], #[0, 3], #[1, 3], #[0, 1, 3], #[2, 3], #[0, 2, 3], #[1, 2, 3], #[0, 1, 2, 3]]
abbrev ins (pl : Array Nat) (k : Nat) : Array Nat := SetTable.insertAt pl (SetTable.below pl k) k
def putOk (led : Bool) (pl : Array Nat) (k : Nat) : Bool := pl.contains k || (decide ((tb led pl).freeSlot (k : Int) = some (k, false)) && decide (((tb led pl).put k) = (tb led (ins pl k), SetTable.below pl k)) &&
  subs.contains (ins pl k) && !(tb led (ins pl k)).tooFull && decide ((ins pl k).size = pl.size + 1) && decide (SetTable.below pl k ≤ pl.size))
theorem put_all : ([true, false].all fun led => subs.all fun pl => (List.range 4).all fun k => putOk led pl k) = true := by decide +kernel
def slotAt (pl : Array Nat) (i : Nat) : Nat := if i = 0 then 0 else pl.getD (i - 1) 0 + 1
theorem below_all : (subs.all fun pl => (List.range (pl.size + 1)).all fun i => decide (SetTable.below pl (slotAt pl i) = i)) = true := by decide +kernel
theorem fits_all : ([true, false].all fun led => subs.all fun pl => (tb led pl).fits pl.size && decide (pl.size ≤ 4) && pl.all (· < 4)) = true := by decide +kernel
theorem mem_tf (b : Bool) : b ∈ [true, false] := by cases b <;> simp
theorem put_ok {led : Bool} {pl : Array Nat} {k : Nat} (h : pl ∈ subs) (hk : k < 4) (hn : pl.contains k = false) : (tb led pl).freeSlot (k : Int) = some (k, false) ∧ (tb led pl).put k = (tb led (ins pl k), SetTable.below pl k) ∧ ins pl k ∈ subs ∧
    (tb led (ins pl k)).tooFull = false ∧ (ins pl k).size = pl.size + 1 ∧ SetTable.below pl k ≤ pl.size := by
  have m := List.all_eq_true.mp (List.all_eq_true.mp (List.all_eq_true.mp put_all led (mem_tf led)) pl h) k (List.mem_range.mpr hk)
  unfold putOk at m
  rw [hn, Bool.false_or] at m
  simp only [Bool.and_eq_true, decide_eq_true_eq, Bool.not_eq_true', List.contains_iff_mem] at m
  exact ⟨m.1.1.1.1.1, m.1.1.1.1.2, m.1.1.1.2, m.1.1.2, m.1.2, m.2⟩
theorem fits_ok {led : Bool} {pl : Array Nat} (h : pl ∈ subs) : (tb led pl).fits pl.size = true ∧ pl.size ≤ 4 ∧ ∀ (i k : Nat), pl[i]? = some k → k < 4 := by
  have m := List.all_eq_true.mp (List.all_eq_true.mp fits_all led (mem_tf led)) pl h
  simp only [Bool.and_eq_true, decide_eq_true_eq] at m
  refine ⟨m.1.1, m.1.2, fun i k e => ?_⟩
  have := Array.all_eq_true'.mp m.2 k (Array.mem_of_getElem? e)
  simpa using this
def Par (pl : Array Nat) (es : Array (Int × Value)) : Prop := es.size = pl.size ∧ ∀ (i k : Nat), pl[i]? = some k → ∃ t : Tok, es[i]? = some ((k : Int), Value.int k t)
theorem insAt_get {α : Type} {xs : Array α} {p : Nat} {x : α} (hp : p ≤ xs.size) (i : Nat) : (SetTable.insertAt xs p x)[i]? = if i < p then xs[i]? else if i = p then some x else xs[i - 1]? := by
  unfold SetTable.insertAt
  have h1 : ((xs.extract 0 p).push x).size = p + 1 := by rw [Array.size_push, Array.size_extract]; omega
  by_cases hi : i < p
  · rw [if_pos hi, Array.getElem?_append_left (by omega), Array.getElem?_push_lt (by rw [Array.size_extract]; omega)]
    rw [Array.getElem_extract, Array.getElem?_eq_getElem (by omega)]
    simp
  · rw [if_neg hi]
    by_cases he : i = p
    · subst he
      rw [if_pos rfl, Array.getElem?_append_left (by omega)]
      have this : ((xs.extract 0 i).push x)[(xs.extract 0 i).size]? = some x := Array.getElem?_push_size
      rw [Array.size_extract, show min i xs.size - 0 = i from by omega] at this
      exact this
    · rw [if_neg he, Array.getElem?_append_right (by omega), h1, Array.getElem?_extract]
      by_cases hl : i - 1 < xs.size
      · rw [if_pos (by omega)]
        congr 1
        omega
      · rw [if_neg (by omega), Array.getElem?_eq_none (by omega)]
theorem insAt_size {α : Type} {xs : Array α} {p : Nat} {x : α} (hp : p ≤ xs.size) : (SetTable.insertAt xs p x).size = xs.size + 1 := by
  unfold SetTable.insertAt
  rw [Array.size_append, Array.size_push, Array.size_extract, Array.size_extract]
  omega
theorem Par.ins {pl : Array Nat} {es : Array (Int × Value)} {k p : Nat} {t : Tok} (h : Par pl es) (hp : p ≤ pl.size) : Par (SetTable.insertAt pl p k) (SetTable.insertAt es p ((k : Int), Value.int k t)) := by
  refine ⟨by rw [insAt_size hp, insAt_size (by rw [h.1]; exact hp), h.1], fun i j e => ?_⟩
  rw [insAt_get hp] at e
  rw [insAt_get (by rw [h.1]; exact hp)]
  split at e
  · rename_i c; rw [if_pos c]; exact h.2 i j e
  · rename_i c
    rw [if_neg c]
    split at e
    · rename_i c2; rw [if_pos c2]; cases e; exact ⟨t, rfl⟩
    · rename_i c2; rw [if_neg c2]; exact h.2 _ _ e
theorem Par.at {pl : Array Nat} {es : Array (Int × Value)} (h : Par pl es) {i : Nat} {e : Int × Value} (he : es[i]? = some e) : ∃ (k : Nat) (t : Tok), pl[i]? = some k ∧ e = ((k : Int), Value.int k t) := by
  have hi : i < es.size := (Array.getElem?_eq_some_iff.mp he).1
  have e1 : pl[i]? = some (pl[i]'(by rw [← h.1]; exact hi)) := Array.getElem?_eq_getElem _
  obtain ⟨t, e2⟩ := h.2 i _ e1
  rw [he] at e2
  exact ⟨_, t, e1, Option.some.inj e2⟩
theorem hash_small {k : Nat} (h : k < 4) : hashInt (k : Int) = k := by
  have : k = 0 ∨ k = 1 ∨ k = 2 ∨ k = 3 := by omega
  rcases this with rfl | rfl | rfl | rfl <;> decide +kernel
abbrev setObj (led : Bool) (es : Array (Int × Value)) (ep : Nat) (pl : Array Nat) : Obj := { cls := .type "set", dict := none, data := .set es ep (tb led pl), slots := #[] }
def SmSet (led : Bool) (h : Heap) (a : Addr) : Prop := ∃ es ep pl, h.get? a = some (setObj led es ep pl) ∧ pl ∈ subs ∧ Par pl es
section
variable {prog : Program} {w : World} {A : Around} {E : Value → Shared → Prop} {s : Shared} {led : Bool} {a : Addr}
theorem elems {pl : Array Nat} {es : Array (Int × Value)} (hp : pl ∈ subs) (h : Par pl es) : ElemsOf (intKind prog w) es.toList := fun e he => by
  obtain ⟨i, hi⟩ := List.mem_iff_getElem?.mp he
  rw [Array.getElem?_toList] at hi
  obtain ⟨k, t, e1, rfl⟩ := h.at hi
  exact ⟨⟨(k : Int), intKind_is _ _ _ _, (hash_small ((fits_ok (led := true) hp).2.2 i k e1)).symm⟩, rfl⟩
theorem add_small {k : Nat} {t : Tok} {Q : Bool → Shared → Prop} (hk : k < 4) (hS : SmSet led s.heap a) (h : ∀ b h', Heap.SameBut a s.heap h' → SmSet led h' a → Q b { s with heap := h' }) :
    wpAny (model prog w) A (setAddHashed a (.int k t) (hashInt k)) Q E s := by
  obtain ⟨es, ep, pl, ho, hp, par⟩ := hS
  obtain ⟨hf, h4, _⟩ := fits_ok (led := led) hp
  rw [← par.1] at hf
  have hel : ElemsOf (intKind prog w) es.toList := elems hp par
  have hb : es.size < scanBound := by rw [par.1]; exact Nat.lt_of_le_of_lt h4 (by decide)
  unfold setAddHashed setAddHashedIn
  refine wpAny_holding (wpAny_bind (wpAny_setState_of ho rfl hf ?_))
  dsimp only
  rw [byScan_of (knd := intKind prog w) (x := .int k t) rfl hb hel]
  simp only [↓reduceIte]
  unfold setAddByScan
  refine wpAny_bind (wpAny_bind (wpAny_rule (wpAny_bind ?_)))
  refine wpAny_setScan_of (knd := intKind prog w) (k := (k : Int)) (intKind_is _ _ _ _) ho rfl hf hel ?_
  rw [hash_small hk]
  cases hr : List.findIdx? (fun e => (intKind prog w).is (k : Int) e.2) es.toList with
  | some j =>
    dsimp only
    refine wpAny_pure (wpAny_pure ?_)
    have e : s = { s with heap := s.heap } := by cases s; rfl
    rw [e]
    exact h false s.heap (Heap.SameBut.refl a s.heap) ⟨es, ep, pl, ho, hp, par⟩
  | none =>
    dsimp only
    have hn : pl.contains k = false := by
      cases hc : pl.contains k with
      | false => rfl
      | true =>
        have hm : k ∈ pl := by simpa using hc
        obtain ⟨i, hi⟩ := Array.mem_iff_getElem?.mp hm
        obtain ⟨t', e'⟩ := par.2 i k hi
        have := List.findIdx?_eq_none_iff.mp hr _ (Array.mem_toList_iff.mpr (Array.mem_of_getElem? e'))
        rw [show (intKind prog w).is (k : Int) (.int (k : Int) t') = true from intKind_is _ _ _ _] at this
        cases this
    obtain ⟨p1, p2, p3, p4, p5, p6⟩ := put_ok (led := led) hp hk hn
    obtain ⟨hf', _, _⟩ := fits_ok (led := led) p3
    have hsz : (SetTable.insertAt es (SetTable.below pl k) ((k : Int), Value.int k t)).size = (ins pl k).size := by rw [insAt_size (by rw [par.1]; exact p6), p5, par.1]
    rw [← hsz] at hf'
    have eL : layNew (tb led pl) es (k : Int) (.int k t) = (SetTable.insertAt es (SetTable.below pl k) ((k : Int), Value.int k t), tb led (ins pl k), false, false) := by
      unfold layNew
      rw [p1]
      dsimp only
      rw [p2]
      dsimp only
      unfold SetTable.orStandIn
      rw [if_pos hf', hf']
      rfl
    rw [eL]
    dsimp only
    refine wpAny_bind (wpAny_pure ?_)
    rw [if_pos (show (tb led (ins pl k)).plain = true from rfl)]
    refine wpAny_bind ?_
    rw [hashByValue_scannable 8 (x := .int k t) rfl]
    refine wpAny_pure ?_
    dsimp only [plainKind]
    refine wpAny_bind (wpAny_storeSet_of ho rfl ?_ (by rw [hsz, p5]; exact Nat.le_trans (show pl.size + 1 ≤ 5 by omega) (by decide)))
    simp only [if_true]
    rw [if_neg (by rw [p4]; decide)]
    refine wpAny_pure ?_
    dsimp only
    refine wpAny_pure (h true _ (Heap.SameBut.update _ a _) ⟨_, ep + 1, ins pl k, ?_, p3, par.ins (t := t) p6⟩)
    have := Heap.get?_update_self (Obj.putSet (SetTable.insertAt es (SetTable.below pl k) ((k : Int), Value.int k t)) (tb led (ins pl k))) ho rfl
    exact this
abbrev bt (w : World) : Bool := w.params.followText "set-order"
theorem new_small {x : Value} {Q₁ : Value → Shared → Prop} (h : Q₁ (.ref s.heap.objs.size) { s with heap := s.heap.push (setObj (!bt w) #[] 0 #[]) }) :
    codeAny (model prog w) A (.call (.builtin "set.__new__") ⟨[.type "set", x], []⟩) (wants Q₁ E) s := by
  refine codeAny_of_tree ?_
  show wpAny _ A.in1 (do checkBuiltinCall "set.__new__" ⟨[.type "set", x], []⟩; again (.builtin "set.__new__" ⟨[.type "set", x], []⟩)) _ _ s
  refine wpAny_bind (wpAny_of_eq (F.newCall_set_1 x) (wpAny_pure ⟨plainId_quiet F.plain_set_new _, codeAny_builtin F.entry_set_new ?_⟩))
  rw [Around.under_plainId F.plain_set_new _]
  unfold Builtin.«set.__new__» Builtin.Frozenset.newClass
  have hsub := sub_set_self
  obtain ⟨hp, g, d, tk, os⟩ := s
  dsimp only
  wp_walk
  refine wpAny_askSetting (wpAny_pure ?_)
  dsimp only
  simp only [newObj]
  refine wpAny_bind (wpAny_alloc (wpAny_pure ?_))
  exact wpAny_pure h
section
variable {R : Result → Shared → Prop} {I : Addr} {fp wr : List Addr} {G : Array GenState → Array GenState → Prop} {n : Nat} {P : Nat → Value → Prop} {St : Nat → Shared → Prop}
theorem SmSet.keep {h h' : Heap} (x : SmSet led h a) (k : ∀ o, h.get? a = some o → h'.get? a = some o) : SmSet led h' a := let ⟨es, ep, pl, e, r⟩ := x; ⟨es, ep, pl, k _ e, r⟩
theorem upd_loop (W : WalksS prog w A.in1 I fp wr G n P St) {S : Addr} (hSf : S ∉ fp) (hval : ∀ i v, P i v → ∃ (k : Nat) (t : Tok), k < 4 ∧ v = .int k t) : ∀ (k i : Nat) (s : Shared), n - i = k → i ≤ n → St i s → SmSet led s.heap S →
    (∀ s', Moved (S :: wr) G s s' → SmSet led s'.heap S → R (.ok (.ret .none)) s') → codeAny (model prog w) A (.builtin "set.update.loop" ⟨[.ref S, .ref I], []⟩) R s := by
  have hSw : S ∉ wr := fun h => hSf (W.sub _ h)
  have up : ∀ b ∈ wr, b ∈ S :: wr := fun b hb => List.mem_cons_of_mem _ hb
  intro k
  induction k with
  | zero =>
    intro i s hk hi st hS hR
    obtain rfl : i = n := by omega
    refine codeAny_builtin F.entry_set_update_loop ?_
    rw [Around.under_plainId F.plain_set_update_loop _]
    show wpAny _ A.in1 (pyNext (.ref I) >>= _) _ _ s
    refine wpAny_bind (W.done s _ _ st fun s' hm => ?_)
    exact wpAny_pure (hR s' (hm.mono up) (hS.keep fun o e => hm.heap S o hSw e))
  | succ k ih =>
    intro i s hk hi st hS hR
    have hlt : i < n := by omega
    refine codeAny_builtin F.entry_set_update_loop ?_
    rw [Around.under_plainId F.plain_set_update_loop _]
    show wpAny _ A.in1 (pyNext (.ref I) >>= _) _ _ s
    refine wpAny_bind (W.item i s _ _ hlt st fun v s' hP st' hm => ?_)
    obtain ⟨j, t, hj, rfl⟩ := hval i v hP
    show wpAny _ A.in1 (holding [Value.int j t] (setAdd S (.int j t)) >>= _) _ _ s'
    refine wpAny_bind (wpAny_holding ?_)
    unfold setAdd
    refine wpAny_holding (wpAny_bind (wpAny_pyHash_int ?_))
    refine add_small (s := { s' with toks := s'.toks + 1 }) hj (hS.keep fun o e => hm.heap S o hSw e) fun b h' sb hS' => ?_
    have k2 : ∀ b o, b ≠ S → s'.heap.get? b = some o → h'.get? b = some o := fun b o hb e => (sb.2 b hb).trans e
    refine wpAny_pure ⟨plainId_quiet F.plain_set_update_loop _, ih (i + 1) _ (by omega) hlt (W.frame _ s' _ _ st' (Nat.le_succ _) fun b hb o e => k2 b o (fun z => hSf (z ▸ hb)) e) hS' fun s'' hm'' hS'' => ?_⟩
    exact hR s'' (Moved.trans W.gtrans ((hm.mono up).then_heap (Nat.le_succ _) fun b o hb e => k2 b o (fun z => hb (z ▸ List.mem_cons_self)) e) hm'') hS''
end
theorem call_set_small {l : Addr} {items : Array Value} {Q : Value → Shared → Prop} (hh : A.handled = none) (hl : s.heap.IsList l items) (hi : ∀ (i : Nat) v, items[i]? = some v → ∃ (k : Nat) (t : Tok), k < 4 ∧ v = .int k t)
    (h : ∀ h' tk, SmSet (!bt w) h' s.heap.objs.size → (∀ b o, s.heap.get? b = some o → h'.get? b = some o) → Q (.ref s.heap.objs.size) { s with heap := h', toks := tk }) :
    wpAny (model prog w) A (call (.type "set") [.ref l]) Q E s := by
  obtain ⟨c, tl, hmro⟩ := F.called_set.mro
  have hmade := F.called_set.made
  have hsub := F.called_set.sub
  refine wpAny_call (codeAny_of_tree ?_)
  show wpAny _ _ (callAny (.type "set") _) _ _ _
  refine wpAny_pure ⟨Code.quiet_builtin _ (by decide +kernel), codeAny_builtin F.entry_type_call ?_⟩
  rw [Around.under_plain (weight_type_call_type "set" [.ref l] []) rfl]
  have h1 := F.called_set.notType
  have h2 := F.called_set.canCreate
  have hct := F.typeCall_set_1 (.ref l)
  repeat (any_goals (first | assumption | wp_step))
  refine codeAny_mono (new_small (x := .ref l) (E := E) (Q₁ := fun obj s₁ => obj = .ref s.heap.objs.size ∧ s₁ = { s with heap := s.heap.push (setObj (!bt w) #[] 0 #[]) }) ⟨rfl, rfl⟩) fun r s₁ hr => ?_
  cases r with
  | error e => exact hr
  | ok fl =>
    cases fl with
    | ret obj =>
      obtain ⟨rfl, rfl⟩ := hr
      generalize hB : s.heap.push (setObj (!bt w) #[] 0 #[]) = B
      have hS : B.get? s.heap.objs.size = some (setObj (!bt w) #[] 0 #[]) := hB ▸ Heap.get?_push_size _ rfl
      have hsz : B.objs.size = s.heap.objs.size + 1 := by rw [← hB, Heap.size_push]
      have old : ∀ b o, s.heap.get? b = some o → B.get? b = some o := fun b o e => hB ▸ Heap.get?_push_of_some _ e
      have hT : Shared.TypeIs { s with heap := B } (.ref s.heap.objs.size) "set" := ⟨_, hS, rfl⟩
      have hli := F.called_set.init.lookup
      have hbi := F.called_set.init.bind (.ref s.heap.objs.size)
      repeat (any_goals (first | assumption | wp_step))
      refine codeAny_mono (codeAny_call_builtin (R := wants (fun r s₂ => r = .none ∧ ∃ h' tk, s₂ = { s with heap := h', toks := tk } ∧ SmSet (!bt w) h' s.heap.objs.size ∧ (∀ b o, s.heap.get? b = some o → h'.get? b = some o)) E)
        F.called_set.init.plain F.entry_set_init (check_set_init_1 hT ?_)) fun r₂ s₂ hr₂ => ?_
      · obtain ⟨ol, hol, hcl, nl, hdl⟩ := id hl
        obtain ⟨ocls, odict, odata, oslots⟩ := ol
        simp only at hcl hdl
        subst hcl; subst hdl
        have hol' : B.get? l = some { cls := .type "list", dict := odict, data := .seq items nl, slots := oslots } := old _ _ hol
        have hsls := F.sub_list_set
        have hslf := F.sub_list_frozenset
        have hne : (Value.type "list" == Value.type "dict") = false := by decide
        have hl1 : B.IsList l items := ⟨_, hol', rfl, nl, rfl⟩
        unfold Builtin.«set.__init__» noKeywords Builtin.Frozenset.updateFrom
        generalize hPI : pyIter = PI
        wp_walk
        subst hPI
        refine wpAny_pyIter_list hl1 ?_
        refine wpAny_bind (wpAny_runValue ?_)
        have hlS : l < s.heap.objs.size := Heap.lt_size hol
        have hh3 : A.in1.in1.in1.handled = none := by simp [hh]
        refine upd_loop (led := !bt w) ((Walks.list hh3 B.objs.size l (by rw [hsz]; exact Nat.ne_of_lt (Nat.lt_succ_of_lt hlS)) items).toS) (S := s.heap.objs.size) (by
          rw [hsz]; simp only [List.mem_cons, List.not_mem_nil, or_false, not_or]; exact ⟨Nat.ne_of_lt (Nat.lt_succ_self _), Nat.ne_of_gt hlS⟩) hi (items.size - 0) 0 _ (by omega) (Nat.zero_le _)
          ⟨⟨_, Heap.get?_push_size _ rfl, rfl, rfl⟩, hl1.push _⟩ ⟨#[], 0, #[], Heap.get?_push_of_some _ hS, by decide, rfl, fun i k e => by simp at e⟩ fun s' hm hS' => ?_
        obtain ⟨h', g', d', tk', os'⟩ := s'
        have eg : g' = s.gens := hm.gens
        have ed : d' = s.drawn := hm.drawn
        have eo : os' = s.os := hm.os
        subst eg; subst ed; subst eo
        show wpAny _ _ _ _ _ _
        refine wpAny_pure ?_
        show wpAny _ _ (ret Value.none) _ _ _
        refine wpAny_pure ⟨rfl, h', tk', rfl, hS', fun b o e => hm.heap b o ?_ (Heap.get?_push_of_some _ (old b o e))⟩
        have hb := Heap.lt_size e
        rw [hsz]
        simp only [List.mem_cons, List.not_mem_nil, or_false, not_or]
        exact ⟨Nat.ne_of_lt hb, Nat.ne_of_lt (Nat.lt_succ_of_lt hb)⟩
      · cases r₂ with
        | error e => exact hr₂
        | ok fl₂ =>
          cases fl₂ with
          | ret r =>
            obtain ⟨rfl, h', tk, rfl, hS', hk'⟩ := hr₂
            repeat (any_goals (first | assumption | wp_step))
            exact h _ _ hS' hk'
          | _ => exact hr₂.elim
    | _ => exact hr.elim
end
end SS
namespace SS
open PySem PySem.Spec PyProof.Rows
theorem below_ok {pl : Array Nat} (h : pl ∈ subs) {i : Nat} (hi : i ≤ pl.size) : SetTable.below pl (slotAt pl i) = i := by
  have m := List.all_eq_true.mp (List.all_eq_true.mp below_all pl h) i (List.mem_range.mpr (by omega))
  simpa using m
theorem pick_go {α : Type} {next : Nat → Nat} : ∀ (fuel k : Nat) (left : List α) (out : Array α), fuel = left.length → (pickOrder.go next fuel k left out).size = out.size + left.length ∧ ∀ x ∈ pickOrder.go next fuel k left out, x ∈ out ∨ x ∈ left
  | 0, k, left, out, h => by
    have : left = [] := List.length_eq_zero_iff.mp h.symm
    subst this
    exact ⟨rfl, fun x hx => .inl hx⟩
  | n + 1, k, left, out, h => by
    have hl : 0 < left.length := by omega
    have hm : next k % left.length < left.length := Nat.mod_lt _ hl
    unfold pickOrder.go
    rw [List.getElem?_eq_getElem hm]
    dsimp only
    obtain ⟨h1, h2⟩ := pick_go n (k + 1) (left.eraseIdx (next k % left.length)) (out.push left[next k % left.length]) (by rw [List.length_eraseIdx_of_lt hm]; omega)
    refine ⟨by rw [h1, Array.size_push, List.length_eraseIdx_of_lt hm]; omega, fun x hx => ?_⟩
    rcases h2 x hx with h3 | h3
    · rcases Array.mem_push.mp h3 with h3 | h3
      · exact .inl h3
      · exact .inr (h3 ▸ List.getElem_mem hm)
    · exact .inr (List.mem_of_mem_eraseIdx h3)
theorem pick_ok {α : Type} {next : Nat → Nat} (xs : Array α) : (pickOrder next xs).size = xs.size ∧ ∀ x ∈ pickOrder next xs, x ∈ xs := by
  obtain ⟨h1, h2⟩ := pick_go (next := next) xs.size 0 xs.toList #[] (by simp)
  refine ⟨by unfold pickOrder; rw [h1]; simp, fun x hx => ?_⟩
  rcases h2 x hx with h | h
  · simp at h
  · exact Array.mem_toList_iff.mp h
def sl (w : World) (pl : Array Nat) (i : Nat) : Nat := if bt w = true then 0 else slotAt pl i
def SIt (w : World) (it a : Addr) (es : Array (Int × Value)) (ep : Nat) (pl : Array Nat) (i : Nat) (h : Heap) : Prop :=
  (∃ o, h.get? it = some o ∧ o.cls = .type "set_iterator" ∧ o.data = .fields #[rawInt (sl w pl i), rawInt i, .ref a, rawInt es.size, rawInt ep]) ∧ h.get? a = some (setObj (!bt w) es ep pl)
section
variable {prog : Program} {w : World} {A : Around} {E : Value → Shared → Prop} {s : Shared} {it a : Addr} {es : Array (Int × Value)} {ep i : Nat} {pl : Array Nat}
theorem SIt.ty (h : SIt w it a es ep pl i s.heap) : s.TypeIs (.ref it) "set_iterator" := let ⟨⟨o, e, c, _⟩, _⟩ := h; ⟨o, e, c⟩
theorem next_some (hp : pl ∈ subs) (par : Par pl es) (ho : s.heap.get? a = some (setObj (!bt w) es ep pl)) (hi : i < es.size) {Q : Option (Value × Nat) → Shared → Prop}
    (h : ∀ (k : Nat) (t : Tok), k < 4 → Q (some (.int k t, sl w pl (i + 1))) s) : wpAny (model prog w) A (setNext a (sl w pl i) i ep) Q E s := by
  have hf : (tb (!bt w) pl).fits es.size = true := by rw [par.1]; exact (fits_ok hp).1
  unfold setNext
  refine wpAny_bind (wpAny_setState_of ho rfl hf ?_)
  unfold setsByText
  refine wpAny_bind (wpAny_bind (wpAny_askSetting (wpAny_pure ?_)))
  dsimp only
  have val : ∀ e ∈ es, ∃ (k : Nat) (t : Tok), k < 4 ∧ e.2 = .int k t := fun e he => by
    obtain ⟨j, hj⟩ := Array.mem_iff_getElem?.mp he
    obtain ⟨k, t, e1, rfl⟩ := par.at hj
    exact ⟨k, t, (fits_ok (led := true) hp).2.2 j k e1, rfl⟩
  cases hb : bt w with
  | true =>
    rw [if_pos (show (model prog w).w.params.followText "set-order" = true from hb)]
    rw [if_neg (by simp)]
    refine wpAny_bind ?_
    unfold setWalk
    refine wpAny_bind (wpAny_setState_of ho rfl hf ?_)
    unfold setsByText
    refine wpAny_bind (wpAny_bind (wpAny_askSetting (wpAny_pure ?_)))
    dsimp only
    rw [if_pos (show (model prog w).w.params.followText "set-order" = true from hb)]
    refine wpAny_bind (wpAny_askSetting (wpAny_pure ?_))
    obtain ⟨z1, z2⟩ := pick_ok (next := (model prog w).w.params.setOrder a ep) es
    refine wpAny_pure ?_
    rw [Array.getElem?_eq_getElem (by rw [z1]; exact hi)]
    obtain ⟨k, t, hk, e⟩ := val _ (z2 _ (Array.getElem_mem (by rw [z1]; exact hi)))
    have q := h k t hk
    simp only [Option.map_some]
    rw [e]
    have e2 : sl w pl (i + 1) = sl w pl i := by unfold sl; rw [if_pos hb, if_pos hb]
    rw [e2] at q
    exact q
  | false =>
    rw [if_neg (show ¬ (model prog w).w.params.followText "set-order" = true from by rw [show (model prog w).w.params.followText "set-order" = false from hb]; decide)]
    refine wpAny_ite_split (fun hab => Bool.noConfusion (show false = true from hab)) (fun _ => ?_)
    refine wpAny_bind ?_
    refine wpAny_ite_split (fun hab => Bool.noConfusion (show false = true from hab)) (fun _ => wpAny_pure (wpAny_pure ?_))
    have hsl : sl w pl i = slotAt pl i := by unfold sl; rw [if_neg (by rw [hb]; decide)]
    have hsl' : sl w pl (i + 1) = pl.getD i 0 + 1 := by unfold sl; rw [if_neg (by rw [hb]; decide)]; unfold slotAt; rw [if_neg (by omega)]; rfl
    show Q (match es[SetTable.below pl (sl w pl i)]?, pl[SetTable.below pl (sl w pl i)]? with | some (_, x), some j => some (x, j + 1) | _, _ => none) s
    rw [hsl, below_ok hp (by rw [← par.1]; omega)]
    have e1 : pl[i]? = some (pl[i]'(by rw [← par.1]; exact hi)) := Array.getElem?_eq_getElem _
    obtain ⟨t, e2⟩ := par.2 i _ e1
    rw [e1, e2]
    have q := h _ t ((fits_ok (led := true) hp).2.2 i _ e1)
    rw [hsl', show pl.getD i 0 = pl[i]'(by rw [← par.1]; exact hi) from by rw [Array.getD_eq_getD_getElem?, e1]; rfl] at q
    exact q
theorem next_none (hp : pl ∈ subs) (par : Par pl es) (ho : s.heap.get? a = some (setObj (!bt w) es ep pl)) {Q : Option (Value × Nat) → Shared → Prop} (h : Q none s) : wpAny (model prog w) A (setNext a (sl w pl es.size) es.size ep) Q E s := by
  have hf : (tb (!bt w) pl).fits es.size = true := by rw [par.1]; exact (fits_ok hp).1
  unfold setNext
  refine wpAny_bind (wpAny_setState_of ho rfl hf ?_)
  unfold setsByText
  refine wpAny_bind (wpAny_bind (wpAny_askSetting (wpAny_pure ?_)))
  dsimp only
  cases hb : bt w with
  | true =>
    rw [if_pos (show (model prog w).w.params.followText "set-order" = true from hb)]
    rw [if_neg (by simp)]
    refine wpAny_bind ?_
    unfold setWalk
    refine wpAny_bind (wpAny_setState_of ho rfl hf ?_)
    unfold setsByText
    refine wpAny_bind (wpAny_bind (wpAny_askSetting (wpAny_pure ?_)))
    dsimp only
    rw [if_pos (show (model prog w).w.params.followText "set-order" = true from hb)]
    refine wpAny_bind (wpAny_askSetting (wpAny_pure ?_))
    obtain ⟨z1, _⟩ := pick_ok (next := (model prog w).w.params.setOrder a ep) es
    refine wpAny_pure ?_
    rw [Array.getElem?_eq_none (by rw [z1]; exact Nat.le_refl _)]
    exact h
  | false =>
    rw [if_neg (show ¬ (model prog w).w.params.followText "set-order" = true from by rw [show (model prog w).w.params.followText "set-order" = false from hb]; decide)]
    refine wpAny_ite_split (fun hab => Bool.noConfusion (show false = true from hab)) (fun _ => ?_)
    refine wpAny_bind ?_
    refine wpAny_ite_split (fun hab => Bool.noConfusion (show false = true from hab)) (fun _ => wpAny_pure (wpAny_pure ?_))
    have hsl : sl w pl es.size = slotAt pl es.size := by unfold sl; rw [if_neg (by rw [hb]; decide)]
    show Q (match es[SetTable.below pl (sl w pl es.size)]?, pl[SetTable.below pl (sl w pl es.size)]? with | some (_, x), some j => some (x, j + 1) | _, _ => none) s
    rw [hsl, below_ok hp (by rw [← par.1]; exact Nat.le_refl _), Array.getElem?_eq_none (Nat.le_refl _)]
    exact h
theorem walk_set (hh : A.handled = none) (hp : pl ∈ subs) (par : Par pl es) (hne : a ≠ it) : Walks prog w A it [it, a] [it] es.size (fun _ v => ∃ (k : Nat) (t : Tok), k < 4 ∧ v = .int k t) (SIt w it a es ep pl) where
  sub := fun b hb => by simp at hb; simp [hb]
  frame := fun i h h' st hk => by
    obtain ⟨⟨o, e, r⟩, e2⟩ := st
    exact ⟨⟨o, hk it (by simp) o e, r⟩, hk a (by simp) _ e2⟩
  item := fun i s Q E hi st hQ => by
    have ty : s.TypeIs (.ref it) "set_iterator" := st.ty
    obtain ⟨⟨o, ho, hc, hd⟩, ha⟩ := st
    have hf : (tb (!bt w) pl).fits es.size = true := by rw [par.1]; exact (fits_ok hp).1
    unfold pyNext
    refine wpAny_bind (wpAny_attempt (wpAny_callSpecial?_slot (name := Str.ofString "__next__") ty slot_si_next (wpAny_call_entry slot_si_next ty entry_si_next ?_ (args_si_next _))))
    show wpAny _ _ (fieldsOf (.ref it) >>= _) _ _ s
    refine wpAny_bind (wpAny_fieldsOf ho hd ?_)
    show wpAny _ _ (setEntries a >>= _) _ _ s
    refine wpAny_bind (wpAny_setEntries_of ha rfl hf ?_)
    rw [if_neg (by simp)]
    show wpAny _ _ (setNext a (Int.toNat (sl w pl i)) (Int.toNat i) (Int.toNat ep) >>= _) _ _ s
    simp only [Int.toNat_natCast]
    refine wpAny_bind (next_some hp par ha hi fun k t hk => ?_)
    dsimp only
    refine wpAny_bind (wpAny_setField ho hd (by simp) ?_)
    have hd2 := Obj.data_mapFields hd (·.setIfInBounds 0 (rawInt (sl w pl (i + 1))))
    have ho2 := Heap.get?_update_self (Obj.mapFields (·.setIfInBounds 0 (rawInt (sl w pl (i + 1))))) ho (Obj.isFreed_of_fields hd2)
    refine wpAny_bind (wpAny_setField ho2 hd2 (by simp) ?_)
    have hd3 := Obj.data_mapFields hd2 (·.setIfInBounds 1 (rawInt (i + 1)))
    have ho3 := Heap.get?_update_self (Obj.mapFields (·.setIfInBounds 1 (rawInt (i + 1)))) ho2 (Obj.isFreed_of_fields hd3)
    refine wpAny_pure ⟨_, rfl, wpAny_pure (hQ (.int k t) _ s.toks ⟨k, t, hk, rfl⟩ ⟨⟨_, ho3, ?_, ?_⟩, ?_⟩ fun b o' hb e => ?_)⟩
    · rw [Obj.cls_mapFields, Obj.cls_mapFields]
      exact hc
    · rw [hd3]
      simp
    · rw [Heap.get?_update_other _ _ (Ne.symm hne), Heap.get?_update_other _ _ (Ne.symm hne)]
      exact ha
    · have hb' : it ≠ b := fun z => hb (by simp [z])
      rw [Heap.get?_update_other _ _ hb', Heap.get?_update_other _ _ hb']
      exact e
  done := fun s Q E st hQ => by
    have ty : s.TypeIs (.ref it) "set_iterator" := st.ty
    obtain ⟨⟨o, ho, hc, hd⟩, ha⟩ := st
    have hf : (tb (!bt w) pl).fits es.size = true := by rw [par.1]; exact (fits_ok hp).1
    unfold pyNext
    refine wpAny_bind (wpAny_attempt (wpAny_callSpecial?_slot (name := Str.ofString "__next__") ty slot_si_next (wpAny_call_entry slot_si_next ty entry_si_next ?_ (args_si_next _))))
    show wpAny _ _ (fieldsOf (.ref it) >>= _) _ _ s
    refine wpAny_bind (wpAny_fieldsOf ho hd ?_)
    show wpAny _ _ (setEntries a >>= _) _ _ s
    refine wpAny_bind (wpAny_setEntries_of ha rfl hf ?_)
    rw [if_neg (by simp)]
    show wpAny _ _ (setNext a (Int.toNat (sl w pl es.size)) (Int.toNat es.size) (Int.toNat ep) >>= _) _ _ s
    simp only [Int.toNat_natCast]
    refine wpAny_bind (next_none hp par ha ?_)
    dsimp only
    refine wpAny_bind (wpAny_setField ho hd (by simp) ?_)
    show wpAny _ _ (newExc (.type "StopIteration") [] >>= _) _ _ _
    refine wpAny_bind ?_
    simp only [newExc, newTuple]
    refine wpAny_bind (wpAny_newObj_type ?_ (by size_fits))
    refine wpAny_bind (m := firstArgMember _ _) (wpAny_of_eq (a := Value.none) (by first | rfl | (simp only [firstArgMember]; rfl)) ?_)
    refine wpAny_newObj_type ?_ (by size_fits)
    simp only [raiseNew]
    refine wpAny_bind (wpAny_handled ?_)
    rw [show A.in1.handled = none from hh]
    refine wpAny_bind (wpAny_pure (wpAny_throw ?_))
    refine wpAny_bind (wpAny_isInstance (T := "StopIteration") (b := true) ⟨_, Heap.get?_push_size _ rfl, rfl⟩ isSubtype_stop ?_)
    have hx := (((Heap.SameBut.update s.heap it (Obj.mapFields (·.setIfInBounds 2 Value.none))).extBut.push { cls := .type "tuple", dict := none, data := .seq ([] : List Value).toArray }))
    refine wpAny_pure (hQ _ s.toks fun b o' hb e => ?_)
    exact (((Heap.SameBut.update ..).extBut.push _).push _) b o' (fun z => hb (by simp [z])) e
  self := fun i s Q E st hQ => by
    have ty : s.TypeIs (.ref it) "set_iterator" := st.ty
    refine wpAny_pyIter_slot ty slot_si_iter (wpAny_call_entry slot_si_iter ty entry_si_iter ?_ (args_si_iter _))
    show wpAny _ _ (ret (.ref it)) _ _ s
    exact wpAny_pure ⟨_, rfl, "set_iterator", _, ty, slot_si_next.lookup, hQ⟩
end
end SS
namespace SS
open PySem PySem.Spec PyProof.Rows
section
variable {prog : Program} {w : World} {A : Around} {E : Value → Shared → Prop} {s : Shared} {it a : Addr} {es : Array (Int × Value)} {ep i : Nat} {pl : Array Nat}
theorem iter_set (hp : pl ∈ subs) (par : Par pl es) (ha : s.heap.get? a = some (setObj (!bt w) es ep pl)) {Q : Value → Shared → Prop}
    (h : ∀ h', SIt w s.heap.objs.size a es ep pl 0 h' → (∀ b o, s.heap.get? b = some o → h'.get? b = some o) → Q (.ref s.heap.objs.size) { s with heap := h' }) : wpAny (model prog w) A (pyIter (.ref a)) Q E s := by
  have hf : (tb (!bt w) pl).fits es.size = true := by rw [par.1]; exact (fits_ok hp).1
  have ty : s.TypeIs (.ref a) "set" := ⟨_, ha, rfl⟩
  refine wpAny_pyIter_slot ty F.slot_set_iter (wpAny_call_entry F.slot_set_iter ty entry_set_iter ?_ (F.args_set_iter_1 _))
  show wpAny _ _ (Builtin.Frozenset.sizeOf a >>= _) _ _ s
  unfold Builtin.Frozenset.sizeOf
  refine wpAny_bind (wpAny_bind (wpAny_setEntries_of ha rfl hf (wpAny_pure ?_)))
  refine wpAny_bind ?_
  unfold setDrawn setsByText
  refine wpAny_bind (wpAny_setState_of ha rfl hf ?_)
  refine wpAny_bind (wpAny_bind (wpAny_askSetting (wpAny_pure ?_)))
  refine wpAny_pure ?_
  dsimp only
  refine wpAny_ite_split (fun hab => ?_) (fun _ => wpAny_bind (wpAny_pure ?_))
  · exfalso
    have hab' : (!(model prog w).w.params.followText "set-order" && (!true && decide (es.size > 1))) = true := hab
    simp at hab'
  refine wpAny_bind (wpAny_setEpoch_of ha rfl hf ?_)
  unfold newFields
  refine wpAny_bind (wpAny_newObj_type (wpAny_pure ⟨_, rfl, "set_iterator", _, ⟨_, Heap.get?_push_size _ rfl, rfl⟩, slot_si_next.lookup, h _ ⟨⟨_, Heap.get?_push_size _ rfl, rfl, ?_⟩, Heap.get?_push_of_some _ ha⟩ fun b o e => Heap.get?_push_of_some _ e⟩))
  have e0 : sl w pl 0 = 0 := by unfold sl slotAt; split <;> rfl
  rw [e0]
  rfl
theorem hint_set (ha : s.heap.get? a = some (setObj (!bt w) es ep pl)) {Q : Bool → Shared → Prop} (h : Q false s) : wpAny (model prog w) A (Builtin.List.listLengthHint (.ref a)) Q E s := by
  have ty : s.TypeIs (.ref a) "set" := ⟨_, ha, rfl⟩
  unfold Builtin.List.listLengthHint
  refine wpAny_bind (wpAny_specialOf ty look_set_len ?_)
  generalize hid : ("set.__len__" : String) = id0
  wp_delta
  rw [show splitId id0 = some ("set", "__len__") from by subst hid; decide +kernel]
  subst hid
  refine wpAny_bind (wpAny_isInstance (T := "set") (b := true) ty sub_set_self ?_)
  refine wpAny_ite_split (fun hab => absurd hab (by decide)) (fun _ => ?_)
  refine wpAny_ite_split (fun _ => ?_) (fun hab => absurd (by decide +kernel) hab)
  refine wpAny_bind (wpAny_typeOf ty ?_)
  exact wpAny_pure h
theorem collect_set (hh : A.handled = none) (hp : pl ∈ subs) (par : Par pl es) (ha : s.heap.get? a = some (setObj (!bt w) es ep pl)) {Q : List Value → Shared → Prop}
    (h : ∀ h' tk (acc : Array Value), s.heap.objs.size ≤ h'.objs.size → acc.size ≤ 4 → (∀ (i : Nat) v, acc[i]? = some v → ∃ (k : Nat) (t : Tok), k < 4 ∧ v = .int k t) → (∀ b o, s.heap.get? b = some o → h'.get? b = some o) → Q acc.toList { s with heap := h', toks := tk }) :
    wpAny (model prog w) A (collect (.ref a)) Q E s := by
  have h4 : es.size ≤ 4 := by rw [par.1]; exact (fits_ok (led := true) hp).2.1
  have alt : a < s.heap.objs.size := Heap.lt_size ha
  generalize hS0 : s.heap.objs.size = S at *
  have hSa : S ≠ a := Nat.ne_of_gt alt
  unfold collect
  refine wpAny_bind (wpAny_runValue (codeAny_builtin F.entry_proto_collect ?_))
  rw [Around.under_plainId F.plain_proto_collect _]
  show wpAny _ A.in1 (newList [] >>= fun l => again (.builtin "list.__iadd__" ⟨[l, .ref a], []⟩)) _ _ s
  refine wpAny_bind (wpAny_newObj_type ?_)
  refine wpAny_pure ⟨plainId_quiet F.plain_list_iadd _, codeAny_builtin F.entry_list_iadd ?_⟩
  rw [Around.under_plainId F.plain_list_iadd _, hS0]
  generalize hB : s.heap.push { cls := .type "list", data := .seq ([] : List Value).toArray } = B
  have hBS : B.get? S = some { cls := .type "list", data := .seq ([] : List Value).toArray } := by rw [← hB, ← hS0]; exact Heap.get?_push_size _ rfl
  have old : ∀ b o, s.heap.get? b = some o → B.get? b = some o := fun b o e => hB ▸ Heap.get?_push_of_some _ e
  have hBz : B.objs.size = S + 1 := by rw [← hB, Heap.size_push, hS0]
  have haB := old _ _ ha
  show wpAny _ A.in1 (Builtin.List.listExtendWith (.ref S) (.ref a) (.ref S)) _ _ { s with heap := B }
  unfold Builtin.List.listExtendWith
  refine wpAny_bind (wpAny_typeOf (T := "set") ⟨_, haB, rfl⟩ ?_)
  have h1 : Builtin.List.listSameRef (.ref S) (.ref a) = false := by simp [Builtin.List.listSameRef, hSa]
  have h2 : (Value.type "set" == Value.type "list") = false := by decide
  have h3 : (Value.type "set" == Value.type "tuple") = false := by decide
  simp only [h1, h2, h3, Bool.or_false, Bool.false_eq_true, if_false]
  refine wpAny_bind (iter_set (s := { s with heap := B }) hp par haB fun h5 st5 k5 => ?_)
  have haC := k5 _ _ haB
  refine wpAny_bind (wpAny_holding (hint_set (s := { s with heap := h5 }) haC ?_))
  refine wpAny_ite_split (fun _ => ?_) (fun hab => absurd (by decide +kernel) hab)
  refine wpAny_bind (wpAny_rule ?_)
  have hS5 := k5 _ _ hBS
  refine wpAny_bind ?_
  show wpAny _ A.in1 (updateSeq S (·.push .none) >>= fun _ => updateSeq S (·.pop)) _ _ _
  refine wpAny_bind (wpAny_updateSeq hS5 rfl ?_)
  have hS6 := Heap.get?_update_self (Obj.mapSeq (·.push Value.none)) hS5 rfl
  refine wpAny_updateSeq hS6 rfl ?_
  have hS7 := Heap.get?_update_self (Obj.mapSeq (·.pop)) hS6 rfl
  have oth : ∀ b o, b ≠ S → h5.get? b = some o → ((h5.update S (Obj.mapSeq (·.push Value.none))).update S (Obj.mapSeq (·.pop))).get? b = some o := fun b o hb e => (Heap.get?_update_other _ _ (Ne.symm hb)).trans ((Heap.get?_update_other _ _ (Ne.symm hb)).trans e)
  have hIS : B.objs.size ≠ S := by rw [hBz]; exact Nat.succ_ne_self _
  have hh1 : A.in1.handled = none := by simp [hh]
  have W := (walk_set (prog := prog) (w := w) (A := A.in1) (ep := ep) hh1 hp par (it := B.objs.size) (a := a) (by rw [hBz]; exact Nat.ne_of_lt (Nat.lt_succ_of_lt alt))).toS
  refine wpAny_pure ⟨plainId_quiet F.plain_extend_loop _, codeAny_extend_loopS W (Nat.le_trans h4 (by decide)) S (by simp [Ne.symm hIS, hSa]) _ es.size 0 _ #[] _ rfl (Nat.zero_le _)
    (W.frame 0 ({ s with heap := h5 } : Shared) _ s.toks st5 (Nat.le_refl _) fun b hb o e => oth b o (fun z => ?_) e) hS7 (ItemsOf.nil _) fun s' acc' c' hm hS' hacc => ?_⟩
  · simp only [List.mem_cons, List.not_mem_nil, or_false] at hb
    rcases hb with q | q
    · exact hIS (q ▸ z)
    · exact hSa (z ▸ q)
  show wpAny _ A (load S >>= _) _ _ s'
  refine wpAny_bind (wpAny_load hS' ?_)
  rw [Moved.eq_with hm]
  refine wpAny_pure (h s'.heap s'.toks acc' (Nat.le_of_lt (Heap.lt_size hS')) (by rw [hacc.1]; exact h4) (fun i v e => hacc.2 i v e) fun b o e => hm.heap b o (fun hmem => ?_) (oth b o ?_ (k5 _ _ (old b o e))))
  · have lt := Heap.lt_size e
    rw [hS0] at lt
    simp only [List.mem_cons, List.not_mem_nil, or_false] at hmem
    rcases hmem with q | q
    · exact Nat.lt_irrefl _ (q ▸ lt)
    · rw [q, hBz] at lt; exact absurd lt (Nat.not_lt.mpr (Nat.le_succ _))
  · have lt := Heap.lt_size e
    rw [hS0] at lt
    exact Nat.ne_of_lt lt
theorem sorted_set (hh : A.handled = none) (hp : pl ∈ subs) (par : Par pl es) (ha : s.heap.get? a = some (setObj (!bt w) es ep pl)) {Q : Value → Shared → Prop}
    (h : ∀ l h' tk (out : Array Value) (ns : List Int) c, s.heap.objs.size ≤ l → (∀ b o, s.heap.get? b = some o → h'.get? b = some o) → h'.get? l = some (seqObj "list" out c) → IntsAre out.toList ns → ns.length ≤ 4 → (∀ x ∈ ns, 0 ≤ x ∧ x < 4) → Q (.ref l) { s with heap := h', toks := tk }) :
    wpAny (model prog w) A (call (.builtin "sorted") [.ref a]) Q E s := by
  refine Calls.call_function_entry kind_sorted plain_sorted entry_sorted (args_sorted1 _) ?_
  unfold Builtin.«sorted»
  refine wpAny_bind (m := checkCount "sorted" 1 1 _) (wpAny_pure ?_)
  refine wpAny_bind (collect_set (by simp [hh]) hp par ha fun h1 tk acc hle hz hv k1 => ?_)
  have hI : ∀ (vs : List Value), (∀ v ∈ vs, ∃ (k : Nat) (t : Tok), k < 4 ∧ v = .int k t) → ∃ ns, IntsAre vs ns ∧ ns.length = vs.length ∧ ∀ x ∈ ns, 0 ≤ x ∧ x < 4 := fun vs => by
    induction vs with
    | nil => exact fun _ => ⟨[], .nil, rfl, fun _ z => by cases z⟩
    | cons v r ih =>
      intro hv
      obtain ⟨ns, i1, i2, i3⟩ := ih fun x hx => hv x (List.mem_cons_of_mem _ hx)
      obtain ⟨k, t, hk, rfl⟩ := hv v List.mem_cons_self
      refine ⟨(k : Int) :: ns, .cons _ _ i1, by rw [List.length_cons, List.length_cons, i2], fun x hx => ?_⟩
      rcases List.mem_cons.mp hx with rfl | hx
      · exact ⟨Int.natCast_nonneg _, by omega⟩
      · exact i3 x hx
  obtain ⟨ns, i1, i2, i3⟩ := hI acc.toList fun v hm => by
    obtain ⟨i, hi⟩ := List.mem_iff_getElem?.mp hm
    exact hv i v (by rw [← Array.getElem?_toList]; exact hi)
  refine wpAny_bind (wpAny_newList ?_ (by rw [Array.length_toList]; exact Nat.le_trans hz (by decide)))
  generalize hB : h1.push (seqObj "list" acc.toList.toArray 0) = B
  have hL : B.get? h1.objs.size = some (seqObj "list" acc.toList.toArray 0) := hB ▸ Heap.get?_push_size _ rfl
  have old : ∀ b o, s.heap.get? b = some o → B.get? b = some o := fun b o e => hB ▸ Heap.get?_push_of_some _ (k1 b o e)
  refine wpAny_bind (wpAny_holding (wpAny_call_entry (s := { s with heap := B, toks := tk }) slot_list_sort ⟨_, hL, rfl⟩ entry_list_sort (list_sort_tree hL i1 (by rw [Array.length_toList]; omega) fun out ns' a1 a2 a3 => ⟨_, rfl, ?_⟩) (args_list_sort _)))
  refine wpAny_pure ⟨_, rfl, h h1.objs.size _ tk out ns' _ hle (fun b o e => ?_) (sortedHeap_at hL).choose_spec a1 (by rw [a2.length_eq, i2, Array.length_toList]; exact hz) fun x hx => i3 x (a2.mem_iff.mp hx)⟩
  have lt := Nat.lt_of_lt_of_le (Heap.lt_size e) hle
  rw [sortedHeap_old (Nat.ne_of_lt lt) (by rw [← hB, Heap.size_push]; exact Nat.lt_succ_of_lt lt)]
  exact old b o e
end
end SS
namespace L2
open PySem PySem.Spec PyProof.Rows
def setO (a : Addr) (w : World) : HO := .ext fun h => SS.SmSet (!SS.bt w) h a
section
variable {X : Cx}
theorem call_setI (hc : X.calm = true) : CallR X (.type "set") (fun xs H Q => ∃ (p : Addr) (ns : List Int), xs = [.ref p] ∧ SqL X.K H p (ns.map V.int) ∧ (∀ x ∈ ns, 0 ≤ x ∧ x < 4) ∧ ∀ l, H l = none → Q (.ref l) (upd H l (setO l X.w))) := by
  intro pins s σ H xs us Q I rv h
  obtain ⟨p, ns, rfl, hS, hn, q⟩ := h
  obtain ⟨u, rfl, ru⟩ := rv.one
  cases ru
  obtain ⟨its, r, pl, hz⟩ := I.list hS
  have hl := r.length
  rw [List.length_map] at hl
  refine SS.call_set_small (I.ok.hd hc) pl.isList (fun i v e => ?_) fun h' tk hS' k => ?_
  · have hi : i < its.length := by
      have := (Array.getElem?_eq_some_iff.mp e).1
      simpa using this
    obtain ⟨t, e'⟩ := ints_at r hi (by omega)
    have e2 : v = .int (ns[i]'(by omega)) t := by
      have : its[i]? = some v := by simpa using e
      rw [List.getElem?_eq_getElem hi, e'] at this
      exact (Option.some.inj this).symm
    obtain ⟨h0, h4⟩ := hn _ (List.getElem_mem (show i < ns.length by omega))
    refine ⟨(ns[i]'(by omega)).toNat, t, by omega, ?_⟩
    rw [e2]
    congr 1
    omega
  · refine ⟨.ref s.heap.objs.size, upd H s.heap.objs.size (setO s.heap.objs.size X.w), I.laid (t' := tk) k (Nat.le_refl _) ?_, rfl, q _ I.fresh⟩
    obtain ⟨es, ep, pl', e, _⟩ := id hS'
    exact ⟨hS', ⟨_, e⟩, fun h1 h2 x kk => x.keep fun o eo => kk o eo⟩
theorem call_sortedS (hc : X.calm = true) : CallR X (.builtin "sorted") (fun xs H Q => ∃ (p : Addr), xs = [.ref p] ∧ H p = some (setO p X.w) ∧ ∀ (l : Addr) (ns : List Int), ns.length ≤ 4 → (∀ x ∈ ns, 0 ≤ x ∧ x < 4) → H l = none → Q (.ref l) (upd H l (.lst (ns.map V.int)))) := by
  intro pins s σ H xs us Q I rv h
  obtain ⟨p, rfl, hp, q⟩ := h
  obtain ⟨u, rfl, ru⟩ := rv.one
  cases ru
  obtain ⟨⟨es, ep, pl, e, hpl, par⟩, _⟩ := I.hok p _ hp
  refine SS.sorted_set (I.ok.hd hc) hpl par e fun l h' tk out ns c hle k el hI hz hv => ?_
  refine ⟨.ref l, upd H l (.lst (ns.map V.int)), I.laid (t' := tk) k hle ?_, rfl, q _ ns hz hv (I.hok.fresh hle)⟩
  exact ⟨by rw [List.length_map]; exact Nat.le_trans hz (by decide), out.toList, c, vals_ints hI, by simpa [seqObj] using el⟩
end
end L2
namespace L2
open PySem PySem.Spec PyProof.Rows
section
variable {M : Model} {A : Around} {E : Value → Shared → Prop} {env : Env} {s : Shared}
theorem comp_freeX {e : Expr} {scope : Scope} {pos : Pos} {newAcc first : Sem Value} {g : Comprehension} {gs : List Comprehension} {cl : List (Str × Addr)} {Q : Value → Shared → Prop} (hcl : clausesOf e = g :: gs) (hs : ∀ x, foldedSetIterable g.iter env x = pure x)
    (hclos : closureFor scope env = pure cl) (hkind : scope.kind = .function) (hnames : ∀ x ∈ scope.names, x.2 = .local → scope.names.lookup x.1 = some .local)
    (h : wpAny M A first (fun x s₁ => wpAny M A (pyIter x) (fun it s₂ => wpAny M A newAcc (fun acc s₃ => wpAny M A (newFunctionEnv scope env.globals cl [] env.qual none .none (some env)) (fun cenv s₄ =>
        codeAny M A (.compStart e 0 it acc { cenv with scope := relabel scope env }) (fun r s' => match r with
          | .ok _ => ∃ m, s'.heap.Ns cenv.locals m ∧ ∀ h', Heap.SameBut cenv.locals s'.heap h' → Q acc { s' with heap := h' }
          | .error x => ∃ m, s'.heap.Ns cenv.locals m ∧ ∀ h', Heap.SameBut cenv.locals s'.heap h' → wpAny M A (passOn "comprehension.variables-let-go" x { cenv with scope := relabel scope env } : Sem Value) (fun _ _ => False) E { s' with heap := h' }) s₄) E s₃) E s₂) E s₁) E s) :
    wpAny M A (comprehension e scope env pos newAcc false first none) Q E s := by
  unfold comprehension
  rw [hclos, hcl]
  refine wpAny_bind (wpAny_mono h (fun x s₁ h₁ => wpAny_bind (wpAny_standAt (wpAny_bind (wpAny_of_eq (hs x) (wpAny_bind (wpAny_holding (wpAny_mono h₁ (fun it s₂ h₂ =>
    wpAny_standIf (wpAny_bind (wpAny_mono h₂ (fun acc s₃ h₃ => wpAny_bind (wpAny_pure (wpAny_bind (wpAny_mono h₃ (fun cenv s₄ h₄ => ?_) fun _ _ z => z)))) fun _ _ z => z))) fun _ _ z => z))))))) fun _ _ z => z)
  dsimp only
  have hv : ∀ x ∈ (scope.names.filter fun x => (x.2 == .local || x.2 == .cell) && x.1 != (".0" : Str)).reverse, x.2 = .local → Env.kindOf { cenv with scope := relabel scope env } x.1 = some .local := fun x hx hl =>
    lookup_relabel_local (hnames x (List.mem_filter.mp (List.mem_reverse.mp hx)).1 hl)
  refine wpAny_holding (wpAny_bind (wpAny_attempt (wpAny_holding (wpAny_run (codeAny_mono h₄ fun r s' hr => ?_)))))
  cases r with
  | ok f =>
    obtain ⟨m, hn, hr⟩ := hr
    exact wpAny_bind (wpAny_holding (wpAny_comp_letGo (cenv := { cenv with scope := relabel scope env }) hkind _ s' m hv hn fun h' m' _ hs' => wpAny_pure (hr h' hs')))
  | error x =>
    obtain ⟨m, hn, hr⟩ := hr
    exact wpAny_bind (wpAny_holding (wpAny_comp_letGo (cenv := { cenv with scope := relabel scope env }) hkind _ s' m hv hn fun h' m' _ hs' => wpAny_mono (hr h' hs') (fun _ _ f => f.elim) fun _ _ y => y))
theorem held_again {base : Heap} {l : List Env} {e L : Addr} {cls a0 : Value} {Q : Unit → Shared → Prop} (R : Heap.HeldW base l e cls a0 L s.heap)
    (h : ∀ h', Heap.HeldW base l e cls a0 L h' → s.heap.UpToSlots h' → Q () { s with heap := h' }) : wpAny M A (setFlight (.ref e) (some L)) Q E s := by
  obtain ⟨hkb, hen, hl, oe, vs, T, oT, ts, he, hcls, hd, h1, hnT, hTe, hT, hdT, h3⟩ := R
  have z3 : 3 < ts.size := (Array.getElem?_eq_some_iff.mp h3).1
  have oth : ∀ b, b ≠ T → (s.heap.update T (Obj.mapFields (·.setIfInBounds 3 ((some L).elim Value.none fun f => rawInt f)))).get? b = s.heap.get? b := fun b hb => Heap.get?_update_other _ _ (Ne.symm hb)
  have noR : ∀ b o, s.heap.get? b = some o → (∀ vs, o.data ≠ .fields vs) → b ≠ T := fun b o hb hnf q => by
    rw [q, hT] at hb; cases hb; exact hnf ts hdT
  unfold setFlight
  refine wpAny_bind (wpAny_field he hd h1 ?_)
  rw [if_pos (show (Value.ref T != Value.none) = true from by simp)]
  refine wpAny_setField hT hdT z3 (h _ ⟨fun b o q => (oth b fun z => by rw [z, hnT] at q; cases q).trans (hkb b o q), hen, hl.of_keeps fun b o hb hnf => ⟨o, (oth b (noR b o hb hnf)).trans hb, rfl⟩, ?_⟩ fun b o hb hnf => ⟨o.slots, (oth b (noR b o hb hnf)).trans hb⟩)
  exact ⟨oe, vs, T, _, _, (oth e (Ne.symm hTe)).trans he, hcls, hd, h1, hnT, hTe, Heap.get?_update_self _ hT (Obj.isFreed_of_fields (Obj.data_mapFields hdT _)), Obj.data_mapFields hdT _, by simp [z3]⟩
theorem fun_less {h B B' : Heap} (k : ∀ b, B.get? b = none → B'.get? b = none) : ∀ {l : List Env}, h.FunFrames B l → h.FunFrames B' l
  | [], _ => trivial
  | _ :: _, ⟨a, ⟨L, o, hf, hn, r⟩, t⟩ => ⟨a, ⟨L, o, hf, k _ hn, r⟩, fun_less k t⟩
theorem fun_keep {h h' B : Heap} : ∀ {l : List Env}, (∀ b ∈ frs l, ∀ o, h.get? b = some o → h'.get? b = some o) → h.FunFrames B l → h'.FunFrames B l
  | [], _, _ => trivial
  | env :: r, k, ⟨a, ⟨L, o, hf, hn, ho, hd⟩, t⟩ => ⟨a, ⟨L, o, hf, hn, k L (by rw [frs_cons hf]; exact List.mem_cons_self) o ho, hd⟩, fun_keep (fun b hb => k b (by rw [frs_cons hf]; exact List.mem_cons_of_mem _ hb)) t⟩
theorem held_but {B h h' : Heap} {l : List Env} {e L C : Addr} {cls a0 : Value} {m : Str → Option Value} (R : Heap.HeldW B l e cls a0 L h) (hC : h.Ns C m) (hl : C ∉ frs l) (sb : Heap.SameBut C h h') : Heap.HeldW (PySem.W.hideAll B [C]) l e cls a0 L h' := by
  obtain ⟨hkb, hen, hf, oe, vs, T, oT, ts, he, hcls, hd, h1, hnT, hTe, hT, hdT, h3⟩ := R
  obtain ⟨oC, eC, pC, hoC, hdC, _⟩ := hC
  have less : ∀ b, B.get? b = none → (PySem.W.hideAll B [C]).get? b = none := fun b q => by
    cases z : (PySem.W.hideAll B [C]).get? b with
    | none => rfl
    | some o => rw [PySem.W.of_hideAll _ z] at q; cases q
  have ne : ∀ b o vs, h.get? b = some o → o.data = .fields vs → b ≠ C := fun b o vs q d z => by rw [z, hoC] at q; cases q; rw [hdC] at d; cases d
  refine ⟨fun b o q => ?_, less _ hen, fun_less less (fun_keep (fun b hb o q => (sb.2 b fun z => hl (z ▸ hb)).trans q) hf), oe, vs, T, oT, ts, (sb.2 e (ne e oe vs he hd)).trans he, hcls, hd, h1, less _ hnT, hTe, (sb.2 T (ne T oT ts hT hdT)).trans hT, hdT, h3⟩
  have hb : b ≠ C := fun z => by rw [z, PySem.W.hideAll_none _ (by simp)] at q; cases q
  exact (sb.2 b hb).trans (hkb b o (PySem.W.of_hideAll _ q))
end
section
variable {X : Cx} {N' : List Str} {cap : List (Option Nat)} {scope : Scope} {elt tg iter : Expr} {ifs : List Expr} {pos : Pos} {g : TG} {ti : TT} {te : TE}
theorem comp_blockX {EX : XK} {pins : List (Addr × Obj)} {σ : St} {H : Hp} {s₂ : Shared} {J : It} {fp : List Addr} {it : Addr} {tn : Nat → Heap → Prop} {E : Value → Shared → Prop} {n : Nat} {Pv : Nat → List V → Hp → Prop} {Fin : List V → Hp → Prop}
    {RR : Value → Env → Result → Shared → Prop}
    (cp : CapOk X.N N' cap X.env.scope scope) (hc : X.calm = true)
    (hg : ∀ cl C s₂ H₂ fp pins, PG (X.comp N' scope cl C s₂ H₂ fp pins) tg g) (hi : ∀ cl C s₂ H₂ fp pins, PIfs (X.comp N' scope cl C s₂ H₂ fp pins) ifs ti) (he : ∀ cl C s₂ H₂ fp pins, PE ((X.comp N' scope cl C s₂ H₂ fp pins).wish (Lies (X.comp N' scope cl C s₂ H₂ fp pins) EX)) elt te)
    (hk : GK g cap) (I : Inv X pins σ H s₂) (T : Turn X.prog X.w X.K tg J fp it tn) (st : tn 0 s₂.heap) (hf : ∀ b ∈ fp, FpOk X pins H b)
    (hn : n ≤ sizeLine) (h0 : Pv 0 [] H)
    (turn : ∀ i ys H2, i < n → Pv i ys H2 → J.go i H2 ∧ ∀ x H3, J.yld i H2 x H3 → g x (capS cap σ) H3 fun σ4 H4 => ti σ4 H4 fun b H5 => if b = true then te σ4 H5 fun y H6 => Pv (i + 1) (ys ++ [y]) H6 else Pv (i + 1) ys H5)
    (fin : ∀ ys H2, Pv n ys H2 → J.stop n H2 ∧ Fin ys H2)
    (hXE : ∀ C, s₂.heap.objs.size < C → ∀ e s', Lies (X.comp N' scope (clOf X.env scope.names []) C s₂ H fp pins) EX e s' → notedBy (model X.prog X.w) X.A (compEnvC scope (clOf X.env scope.names []) C X.env) (fun e s'' => RR (.ref s₂.heap.objs.size) (compEnvC scope (clOf X.env scope.names []) C X.env) (.error e) s'') e s')
    (hRR : ∀ D C ys H' s', Inv X pins σ (upd H' D (.lst ys)) s' → H' D = none → (∃ m, s'.heap.Ns C m) → FpOk X pins (upd H' D (.lst ys)) C → Fin ys H' → RR (.ref D) (compEnvC scope (clOf X.env scope.names []) C X.env) (.ok .next) s') :
    wpAny (model X.prog X.w) X.A (newList []) (fun acc s₃ => wpAny (model X.prog X.w) X.A (newFunctionEnv scope X.env.globals (clOf X.env scope.names []) [] X.env.qual none .none (some X.env)) (fun cenv s₄ =>
      codeAny (model X.prog X.w) X.A (.compStart (.ListComp elt [⟨tg, iter, ifs, 0⟩] scope pos) 0 (.ref it) acc { cenv with scope := relabel scope X.env }) (RR acc { cenv with scope := relabel scope X.env }) s₄) E s₃) E s₂ := by
  refine wpAny_newObj_type (wpAny_newFunctionEnv cp.nocell (by intro y hy; simp at hy) (fun h₁ hns₁ hsb₁ => ?_) cp.2.1)
  dsimp only at hns₁ hsb₁ ⊢
  generalize hH2 : s₂.heap.push { cls := .type "list", dict := none, data := .seq ([] : List Value).toArray } = B2 at hns₁ hsb₁ ⊢
  have hC : B2.objs.size = s₂.heap.objs.size + 1 := by rw [← hH2, Heap.size_push]
  have hDC : s₂.heap.objs.size ≠ B2.objs.size := by rw [hC]; exact Nat.ne_of_lt (Nat.lt_succ_self _)
  have hCle : s₂.heap.objs.size ≤ B2.objs.size := by rw [hC]; exact Nat.le_succ _
  have below : ∀ b, b < s₂.heap.objs.size → b ≠ B2.objs.size ∧ b ≠ s₂.heap.objs.size := fun b hb => ⟨by rw [hC]; exact Nat.ne_of_lt (Nat.lt_succ_of_lt hb), Nat.ne_of_lt hb⟩
  have old : ∀ b o, s₂.heap.get? b = some o → h₁.get? b = some o := fun b o e => hsb₁.extBut b o (below b (Heap.lt_size e)).1 (Heap.get?_push_of_some _ (hH2 ▸ Heap.get?_push_of_some _ e))
  have hacc : h₁.get? s₂.heap.objs.size = some { cls := .type "list", data := .seq ([] : List Value).toArray } := hsb₁.extBut _ _ hDC (Heap.get?_push_of_some _ (hH2 ▸ Heap.get?_push_size _ rfl))
  have hfp : ∀ b ∈ fp, b < s₂.heap.objs.size := fun b hb => by
    obtain ⟨o, e, _⟩ := T.obj 0 s₂.heap st b hb
    exact Heap.lt_size e
  generalize hX' : X.comp N' scope (clOf X.env scope.names []) B2.objs.size s₂ H fp pins = X'
  have hD : FpOk X pins H s₂.heap.objs.size := I.fpOk (Nat.le_refl _) I.fresh
  have okX : X'.Ok := hX' ▸ I.compOk cp hf hfp hCle
  have stkNe : ∀ b, b ≠ X.env.locals → b ∉ X.fs → b ∉ frs X.stack := fun b h1 h2 z => by
    rcases List.mem_cons.mp (I.stkSub b z) with q | q
    · exact h1 q
    · exact h2 q
  -- the iterator's objects, in the block
  have fpX : ∀ {H' : Hp} {oD : Obj}, (∀ b ∈ fp, H' b = none) → ∀ b ∈ fp, FpOk X' [(s₂.heap.objs.size, oD)] H' b := fun {H' oD} hn' b hb => by
    subst hX'
    obtain ⟨_, f1, f2, f3, f4, f5⟩ := hf b hb
    refine ⟨hn' b hb, Nat.ne_of_lt (Nat.lt_of_lt_of_le (hfp b hb) hCle), stkNe b f1 f2, .inl hb, fun x c e => f4 x c (clOf_sub0 e), fun p hp => ?_⟩
    rcases List.mem_append.mp hp with hp | hp
    · exact f5 p hp
    · have e : p = (s₂.heap.objs.size, oD) := by simpa using hp
      subst e
      exact Nat.ne_of_gt (hfp b hb)
  -- the block's start
  have I0 : Inv X' [(s₂.heap.objs.size, { cls := .type "list", data := .seq ([] : List Value).toArray })] (capS cap σ) H { s₂ with heap := h₁, toks := s₂.toks + ([] : List (Str × Value)).length } := by
    subst hX'
    refine ⟨okX, rfl, I.bare, Un.kept old, ⟨_, hns₁, fun i x v e1 e2 e3 => ?_⟩, fun x c e => ?_, I.hok.fresh hCle, fun x c e => I.freeC x c (clOf_sub0 e), fun p hp => ?_, I.hok.kept old, ?_⟩
    · have hi' : cap[i]? ≠ none := fun z => by
        unfold capS at e2
        rw [List.getElem?_map, z] at e2
        cases e2
      obtain ⟨o, ho⟩ := Option.ne_none_iff_exists'.mp hi'
      unfold capS at e2
      rw [List.getElem?_map, ho] at e2
      cases o with
      | none => cases e2
      | some j =>
        have e2' : σ[j]? = some (some v) := by
          have q : (σ[j]?).getD none = some v := Option.some.inj e2
          cases z : σ[j]? with
          | none => rw [z] at q; cases q
          | some y => rw [z] at q; rw [show y = some v from q]
        have hz : (some j, x) ∈ cap.zip N' := List.mem_iff_getElem?.mpr ⟨i, by rw [List.getElem?_zip_eq_some]; exact ⟨ho, e1⟩⟩
        obtain ⟨n1, n2⟩ := cp.2.2.2 _ hz j (by simp)
        have n3 := (cp.2.2.1 _ (PySem.mem_of_lookup n2)).2.2 rfl
        obtain ⟨m, hm, hl⟩ := I.loc
        obtain ⟨u, r, l⟩ := hl j x v n1 e2' (n3.elim (fun z => .inr (.inl z)) fun z => .inr (.inr z))
        refine ⟨u, r, .inr ⟨relab_of n2, ?_⟩⟩
        rcases l with ⟨k, _⟩ | ⟨_, c, ec, z⟩
        · have k' : X.env.scope.names.lookup x = some .local := k
          rcases n3 with z | z
          · rw [z] at k'; cases k'
          · rw [z] at k'; cases k'
        · obtain ⟨c', e'⟩ := clOf_has (env := X.env) (acc := []) (PySem.mem_of_lookup n2) ⟨c, ec⟩
          have q := clOf_sub0 e'
          rw [ec] at q
          cases q
          obtain ⟨oc, hoc, hd⟩ := z
          exact ⟨c, e', oc, old _ _ hoc, hd⟩
    · obtain ⟨v, oc, hoc, hd⟩ := I.cell x c (clOf_sub0 e)
      exact ⟨v, oc, old _ _ hoc, hd⟩
    · rcases List.mem_append.mp hp with hp | hp
      · obtain ⟨q1, q2, q3, q4, q5⟩ := I.pin p hp
        exact ⟨old _ _ q1, q2, (below _ (Heap.lt_size q1)).1, stkNe _ q3 q4, q5⟩
      · have e : p = (s₂.heap.objs.size, { cls := .type "list", data := .seq ([] : List Value).toArray }) := by simpa using hp
        subst e
        exact ⟨hacc, hD.1, hDC, stkNe _ hD.2.1 hD.2.2.1, fun v z => by cases z⟩
    · unfold capS
      rw [List.length_map]
      exact cp.1.symm
  have hst₁ : tn 0 h₁ := T.keep 0 s₂.heap h₁ st fun b _ o e => old b o e
  have eX : X'.env = compEnvC scope (clOf X.env scope.names []) B2.objs.size X.env := by subst hX'; rfl
  have hg' : PG X' tg g := hX' ▸ hg _ _ _ _ _ _
  have hi' : PIfs X' ifs ti := hX' ▸ hi _ _ _ _ _ _
  have he' : PE (X'.wish (Lies X' EX)) elt te := hX' ▸ he _ _ _ _ _ _
  have hXE' : ∀ e s', Lies X' EX e s' → notedBy (model X'.prog X'.w) X'.A X'.env (fun e s'' => RR (.ref s₂.heap.objs.size) (compEnvC scope (clOf X.env scope.names []) B2.objs.size X.env) (.error e) s'') e s' := by
    subst hX'
    exact hXE B2.objs.size (by rw [hC]; exact Nat.lt_succ_self _)
  have eP : X'.prog = X.prog := by subst hX'; rfl
  have eW : X'.w = X.w := by subst hX'; rfl
  have eK : X'.K = X.K := by subst hX'; rfl
  have eA : X'.A = X.A := by subst hX'; rfl
  have eC : X'.calm = true := by subst hX'; exact hc
  have eE : X'.xe = fun _ _ => False := by subst hX'; rfl
  have eL : X'.env.locals = B2.objs.size := by subst hX'; rfl
  have eFs : X'.fs = frs X.stack := by subst hX'; rfl
  have eEx : X'.ex = fp := by subst hX'; rfl
  have eH : X'.H₀ = H := by subst hX'; rfl
  have eS : X'.s₀ = s₂ := by subst hX'; rfl
  -- the end: back to the frame around
  have back : ∀ {σ' : St} {H' : Hp} {s' : Shared} {ys : List V} {its : List Value} {k : Nat}, Inv X' [(s₂.heap.objs.size, { cls := .type "list", data := .seq its.toArray k })] σ' H' s' → Vals ys its → ys.length ≤ sizeLine → Fin ys H' → RR (.ref s₂.heap.objs.size) (compEnvC scope (clOf X.env scope.names []) B2.objs.size X.env) (.ok .next) s' := by
    intro σ' H' s' ys its k I' rv hz hF
    have os : s'.os = s₂.os := by rw [I'.os, eS]
    have un : Un (frs X.stack) fp H H' s₂.heap s'.heap := by
      have q := I'.base
      rw [eFs, eEx, eH, eS] at q
      exact q
    have hok : HOk X.prog X.w H' s'.heap := by
      have q := I'.hok
      rw [eP, eW] at q
      exact q
    have J1 : Inv X pins σ H' s' := I.call' os un hok I'.bare fun b hb => ⟨(hf b hb).2.2.2.1, (hf b hb).2.1, (hf b hb).2.2.2.2.1, (hf b hb).2.2.2.2.2⟩
    obtain ⟨p1, p2, _⟩ := I'.pin (s₂.heap.objs.size, { cls := .type "list", data := .seq its.toArray k }) (by simp)
    have fD : FpOk X pins H' s₂.heap.objs.size := I.fpOk (Nat.le_refl _) p2
    have J2 : Inv X pins σ (upd H' s₂.heap.objs.size (.lst ys)) s' := J1.track fD p1 rv hz
    obtain ⟨m, hm, _⟩ := I'.loc
    rw [eL] at hm
    have hfr := I'.free
    rw [eL] at hfr
    exact hRR _ _ ys H' s' J2 p2 ⟨m, hm⟩ (I.fpOk hCle (by rw [upd_ne (Ne.symm hDC)]; exact hfr)) hF
  have loop : ∀ s₃ : Shared, s₃ = { s₂ with heap := h₁, toks := s₂.toks + ([] : List (Str × Value)).length } →
      codeAny (model X.prog X.w) X.A (.compLoop (.ListComp elt [⟨tg, iter, ifs, 0⟩] scope pos) 0 (.ref it) (.ref s₂.heap.objs.size) (compEnvC scope (clOf X.env scope.names []) B2.objs.size X.env)) (RR (.ref s₂.heap.objs.size) (compEnvC scope (clOf X.env scope.names []) B2.objs.size X.env)) s₃ := by
    intro s₃ e₃
    generalize hRg : RR (.ref s₂.heap.objs.size) (compEnvC scope (clOf X.env scope.names []) B2.objs.size X.env) = RG at hXE' back ⊢
    rw [← eX, ← eP, ← eW, ← eA]
    rw [← eP, ← eW, ← eK] at T
    refine comp_loop (fun k s' => ∃ i ys its c H', k = n - i ∧ i ≤ n ∧ Inv X' [(s₂.heap.objs.size, { cls := .type "list", data := .seq its.toArray c })] (capS cap σ) H' s' ∧ Vals ys its ∧ ys.length ≤ i ∧ tn i s'.heap ∧ (∀ b ∈ fp, H' b = none) ∧ Pv i ys H') ?_ n
      (e₃ ▸ ⟨0, [], [], 0, H, rfl, Nat.zero_le _, I0, .nil, Nat.le_refl _, hst₁, fun b hb => (hf b hb).1, h0⟩)
    rintro k s' ⟨i, ys, its, c, H', rfl, hin, I', rv, hy, st', fr', pv⟩
    have noE : ∀ {α : Type} {t : Sem α} {Q : α → Shared → Prop} {s : Shared} {E' : Value → Shared → Prop}, wpAny (model X'.prog X'.w) X'.A t Q X'.xe s → wpAny (model X'.prog X'.w) X'.A t Q E' s := fun h => wpAny_mono h (fun _ _ q => q) fun e s z => by
      rw [eE] at z
      exact z.elim
    by_cases hlt : i < n
    · obtain ⟨go, step⟩ := turn i ys H' hlt pv
      refine thn (T.item X' rfl rfl rfl eC i _ s' (capS cap σ) H' _ I' (fpX fr') st' go) fun r s4 ⟨u, hr, h4⟩ => ?_
      subst hr
      refine thn h4 fun _ s5 ⟨x, H5, I5, r5, y5, st5, fr5⟩ => ?_
      have I5' := I5.pinned (fpX fr5) (T.obj _ _ st5)
      refine noE (thn (hg' _ s5 _ H5 x u _ I5' r5 (hk σ x H5 _ (step x H5 y5))) fun _ s6 ⟨σ6, H6, I6, ex6, q6⟩ => ?_)
      refine noE (thn (hi' _ s6 σ6 H6 _ I6 q6) fun b s7 ⟨H7, I7, q7⟩ => ?_)
      have again : ∀ {ys' : List V} {its' : List Value} {c' : Nat} {H8 : Hp} {s8 : Shared}, Inv X' ([(s₂.heap.objs.size, { cls := .type "list", data := .seq its'.toArray c' })] ++ pinsAt fp s5.heap) σ6 H8 s8 → Vals ys' its' → ys'.length ≤ i + 1 → Pv (i + 1) ys' H8 →
          ∃ m, m < n - i ∧ ∃ i ys its c H', m = n - i ∧ i ≤ n ∧ Inv X' [(s₂.heap.objs.size, { cls := .type "list", data := .seq its.toArray c })] (capS cap σ) H' s8 ∧ Vals ys its ∧ ys.length ≤ i ∧ tn i s8.heap ∧ (∀ b ∈ fp, H' b = none) ∧ Pv i ys H' := by
        intro ys' its' c' H8 s8 I8 rv8 hy8 pv8
        refine ⟨n - (i + 1), by omega, i + 1, ys', its', c', H8, rfl, hlt, I8.unpinned.weak ex6.1.symm ex6.2, rv8, hy8, T.keep _ _ _ st5 fun b hb o e => (I8.pin (b, o) (List.mem_append_right _ (List.mem_append_right _ (mem_pinsAt hb e)))).1, fun b hb => ?_, pv8⟩
        obtain ⟨o, e, d⟩ := T.obj _ _ st5 b hb
        exact (I8.pin (b, o) (List.mem_append_right _ (List.mem_append_right _ (mem_pinsAt hb e)))).2.1
      cases b with
      | false => exact again I7 rv (Nat.le_succ_of_le hy) q7
      | true =>
        refine wpAny_mono (he' _ s7 σ6 H7 _ (I7.wish _) q7) (fun v s8 ⟨y, H8, I8w, r8, q8⟩ => ?_) fun e s8 q => hXE' e s8 q
        have I8 := I8w.unwish
        obtain ⟨p1, p2, p3, p4, p5⟩ := I8.pin (s₂.heap.objs.size, { cls := .type "list", data := .seq its.toArray c }) (by simp)
        have hl := rv.length
        refine wpAny_list_append_plain (hsz := by rw [List.size_toArray]; omega) ⟨c, p1⟩ fun h9 hl9 hs9 => ?_
        obtain ⟨c9, e9⟩ := hl9
        have e9' : h9.get? s₂.heap.objs.size = some { cls := .type "list", data := .seq (its ++ [v]).toArray c9 } := by
          rw [e9]
          simp
        have I9 : Inv X' (pinsAt fp s5.heap) σ6 H8 { s8 with heap := h9 } := by
          have J8 : Inv X' (pinsAt fp s5.heap) σ6 H8 s8 := I8.pins_of fun p hp => I8.pin p (List.mem_append_right _ (List.mem_append_right _ hp))
          refine J8.turned (it := s₂.heap.objs.size) (t' := s8.toks) (fun b o hb e => hs9.extBut b o hb e) p2 p3 (.inr (by rw [eS]; exact Nat.le_refl _)) (fun x c e z => ?_) fun p hp z => ?_
          · obtain ⟨v', oc, hoc, hd⟩ := I8.cell x c e
            rw [z, p1] at hoc
            cases hoc
            cases hd
          · rcases List.mem_append.mp hp with hp | hp
            · have q : p ∈ X.pn ++ pins := by
                subst hX'
                exact hp
              exact hD.2.2.2.2.2 p q z
            · obtain ⟨q1, q2⟩ := of_pinsAt hp
              have lt := hfp _ q1
              rw [z] at lt
              exact Nat.lt_irrefl _ lt
        refine again (ys' := ys ++ [y]) (its' := its ++ [v]) (c' := c9) (I9.pins_of fun p hp => ?_) (rv.append (.cons r8 .nil)) (by rw [List.length_append, List.length_singleton]; omega) q8
        rcases List.mem_append.mp hp with hp | hp
        · have e : p = (s₂.heap.objs.size, { cls := .type "list", data := .seq (its ++ [v]).toArray c9 }) := by simpa using hp
          subst e
          exact ⟨e9', p2, p3, p4, fun v z => by cases z⟩
        · exact I9.pin p (List.mem_append_right _ hp)
    · have ein : i = n := by omega
      subst ein
      obtain ⟨stop, hF⟩ := fin ys H' pv
      refine thn (T.done X' rfl rfl rfl eC i _ s' (capS cap σ) H' _ I' (fpX fr') st' stop) fun r s4 ⟨hr, I4⟩ => ?_
      subst hr
      exact back I4 rv (Nat.le_trans hy hn) hF
  exact codeAny_compStart_list (loop _ rfl) (T.self X.A 0 _ _ _ hst₁ (loop _ rfl))
end
section
variable {P : Program} {w : World} {K : PySem.W.Frag} {mg : Str → Option Value} {base : Heap} {N : List Str} {qual : Str} {sc : Scope} {f : Addr} {cd : Value} {A : Around} {outer : List Env} {s : Shared} {H : Hp} {E : XK}
variable {N' : List Str} {cap : List (Option Nat)} {scope : Scope} {elt tg iter : Expr} {ifs : List Expr} {pos : Pos} {g : TG} {ti : TT} {te : TE}
theorem comp_raised {pins : List (Addr × Obj)} {σ : St} {H2 : Hp} {s2 s8 : Shared} {fp : List Addr} {C : Addr} {e : Value} {cl : List (Str × Addr)} (I : Inv (cxOf (CXE P w) P w K mg base N qual sc f cd A outer s H E) pins σ H2 s2)
    (hf : ∀ b ∈ fp, FpOk (cxOf (CXE P w) P w K mg base N qual sc f cd A outer s H E) pins H2 b) (hC : s2.heap.objs.size < C)
    (h : Lies ((cxOf (CXE P w) P w K mg base N qual sc f cd A outer s H E).comp N' scope cl C s2 H2 fp pins) E e s8) :
    notedBy (model P w) (A.deeper (envOfC qual sc s.heap.objs.size f cd)) (compEnvC scope cl C (envOfC qual sc s.heap.objs.size f cd)) (fun e s' => ∃ m, s'.heap.Ns C m ∧ ∀ h', Heap.SameBut C s'.heap h' →
      wpAny (model P w) (A.deeper (envOfC qual sc s.heap.objs.size f cd)) (passOn "comprehension.variables-let-go" e (compEnvC scope cl C (envOfC qual sc s.heap.objs.size f cd)) : Sem Value) (fun _ _ => False) (cxOf (CXE P w) P w K mg base N qual sc f cd A outer s H E).xe { s' with heap := h' }) e s8 := by
  obtain ⟨pins', σ1, H1, s1, I1, ea, cls, a0, B, H', rfl, os, bare, un, ok, hB, fl, qE⟩ := h
  have fl0 : Heap.FlyingW B (envOfC qual sc s.heap.objs.size f cd :: outer) ea cls a0 s8.heap := fl
  show wpAny (model P w) (A.deeper (envOfC qual sc s.heap.objs.size f cd)) (noteFrame (.ref ea) (envOfC qual sc s.heap.objs.size f cd)) _ _ s8
  refine wpAny_looks_onW (L := s.heap.objs.size) I.ok.frames rfl fl0 fun h4 held sl4 => ?_
  have J1 := I1.landed os bare un ok hB fl.1 held.1 sl4
  obtain ⟨m, hm, _⟩ := id J1.loc
  have hmC : h4.Ns C m := hm
  have nC : H' C = none := J1.free
  have fC := I.fpOk (H' := H') (Nat.le_of_lt hC) nC
  have hfr : C ∉ frs (envOfC qual sc s.heap.objs.size f cd :: outer) := fun z => by
    obtain ⟨_, o, q, _⟩ := I.stack.mem z
    exact absurd (Nat.lt_trans (Heap.lt_size q) hC) (Nat.lt_irrefl _)
  refine ⟨m, hmC, fun h5 sb => ?_⟩
  have J : Inv (cxOf (CXE P w) P w K mg base N qual sc f cd A outer s H E) pins σ H' { s8 with heap := h4 } := I.call' (s' := { s8 with heap := h4 }) (J1.os) J1.base J1.hok bare fun b hb => ⟨(hf b hb).2.2.2.1, (hf b hb).2.1, (hf b hb).2.2.2.2.1, (hf b hb).2.2.2.2.2⟩
  have J5 := J.turned (h' := h5) (t' := s8.toks) (fun b o hb q => (sb.2 b hb).trans q) fC.1 fC.2.1 fC.2.2.2.1 fC.2.2.2.2.1 fC.2.2.2.2.2
  have held5 := held_but held hmC hfr sb
  have hB5 : ∀ b o, s.heap.get? b = some o → b ∉ frs outer → ∃ o', (PySem.W.hideAll B [C]).get? b = some o' := fun b o q hb => by
    have lt : b < s.heap.objs.size := Heap.lt_size q
    obtain ⟨o1, e1⟩ := I.base.there b o q fun z => absurd (show b ∈ ([] : List Addr) from z) (by simp)
    have nfp : b ∉ fp := fun z => by
      rcases (hf b z).2.2.2.1 with y | y
      · exact absurd (show b ∈ ([] : List Addr) from y) (by simp)
      · exact absurd (Nat.lt_of_lt_of_le lt y) (Nat.lt_irrefl _)
    obtain ⟨o2, e2⟩ := I1.base.there b o1 e1 nfp
    obtain ⟨o3, e3⟩ := hB b o2 e2 fun z => by
      have z' : b ∈ frs (envOfC qual sc s.heap.objs.size f cd :: outer) := z
      rw [frs_cons (show (envOfC qual sc s.heap.objs.size f cd).frame = some s.heap.objs.size from rfl)] at z'
      rcases List.mem_cons.mp z' with z' | z'
      · exact absurd lt (by rw [z']; exact Nat.lt_irrefl _)
      · exact hb z'
    refine ⟨o3, PySem.W.hideAll_get _ e3 fun z => ?_⟩
    have z' : b = C := by simpa using z
    rw [z'] at e1
    exact absurd (Nat.lt_trans (Heap.lt_size e1) hC) (Nat.lt_irrefl _)
  have ok5 : HOk P w H' (PySem.W.hideAll B [C]) := fun a o e => by
    refine (ok a o e).stay (fun b u hb e' => PySem.W.hideAll_get _ e' fun z => ?_) (fun _ z => z) fun _ _ z => z
    have z' : b = C := by simpa using z
    subst z'
    rcases hb with rfl | hb
    · rw [e] at nC; cases nC
    · rw [hb] at nC; cases nC
  unfold PySem.passOn
  obtain ⟨oe, vs, T, oT, ts, he, hcls, hd, h1, hr⟩ := held5.2.2.2
  refine wpAny_bind (wpAny_field he hd h1 ?_)
  rw [if_neg (show ¬ ((Value.ref T == Value.none) = true) from Bool.false_ne_true)]
  refine wpAny_bind (held_again (s := { s8 with heap := h5 }) held5 fun h6 held6 sl6 => wpAny_throw ?_)
  show wpAny (model P w) (A.deeper (envOfC qual sc s.heap.objs.size f cd)) (leaving (envOfC qual sc s.heap.objs.size f cd) (.ref ea)) _ _ _
  unfold leaving
  refine wpAny_bind (wpAny_noteFrame_againW rfl held6.2.2.2 ?_)
  refine wpAny_landsW (s := { s8 with heap := h6 }) held6 fun h7 fl7 sl7 => ?_
  obtain ⟨k1, k2, ⟨_, _, k3⟩, k4⟩ := fl7
  exact ⟨ea, cls, a0, _, H', rfl, J.os, bare, un_slots J5.base hB5 held5.1 k1 (sl6.trans sl7) (no_fields J5) J5.ok.frf, ok5, hB5, ⟨k1, k2, k3, k4⟩, qE⟩
theorem pe_compX {wi : TI} (cp : CapOk N N' cap sc scope) (hi : PI (cxOf (CXE P w) P w K mg base N qual sc f cd A outer s H E) tg iter wi)
    (hg : ∀ cl C s₂ H₂ fp pins, PG ((cxOf (CXE P w) P w K mg base N qual sc f cd A outer s H E).comp N' scope cl C s₂ H₂ fp pins) tg g) (ht : ∀ cl C s₂ H₂ fp pins, PIfs ((cxOf (CXE P w) P w K mg base N qual sc f cd A outer s H E).comp N' scope cl C s₂ H₂ fp pins) ifs ti)
    (he : ∀ cl C s₂ H₂ fp pins, PE (((cxOf (CXE P w) P w K mg base N qual sc f cd A outer s H E).comp N' scope cl C s₂ H₂ fp pins).wish (Lies ((cxOf (CXE P w) P w K mg base N qual sc f cd A outer s H E).comp N' scope cl C s₂ H₂ fp pins) E)) elt te)
    (hk : GK g cap) (hs : ∀ x, foldedSetIterable iter (envOfC qual sc s.heap.objs.size f cd) x = pure x := by intro _; rfl) : PE (cxOf (CXE P w) P w K mg base N qual sc f cd A outer s H E) (.ListComp elt [⟨tg, iter, ifs, 0⟩] scope pos) (tComp wi g ti te cap) := by
  intro pins s0 σ H0 Q I h
  rw [eval_ListComp]
  refine comp_freeX rfl hs (clo_eq (I.cellsFor cp)) cp.2.1 cp.loc (thn (hi pins s0 σ H0 _ I h) fun v s1 h1 => thn h1 fun itv s2 h2 => ?_)
  obtain ⟨it, fp, tn, J, H2, e, I2, T, st2, f2, n, Pv, hn, p0, turn, fin⟩ := h2
  subst e
  refine comp_blockX (RR := fun acc cenv r s' => match r with
    | .ok _ => ∃ m, s'.heap.Ns cenv.locals m ∧ ∀ h', Heap.SameBut cenv.locals s'.heap h' → EP (cxOf (CXE P w) P w K mg base N qual sc f cd A outer s H E) pins σ Q acc { s' with heap := h' }
    | .error x => ∃ m, s'.heap.Ns cenv.locals m ∧ ∀ h', Heap.SameBut cenv.locals s'.heap h' → wpAny (model P w) (A.deeper (envOfC qual sc s.heap.objs.size f cd)) (passOn "comprehension.variables-let-go" x cenv : Sem Value) (fun _ _ => False) (cxOf (CXE P w) P w K mg base N qual sc f cd A outer s H E).xe { s' with heap := h' })
    cp rfl hg ht he hk I2 T st2 f2 hn p0 turn (Fin := fun ys H2 => ∀ D, H2 D = none → Q (.ref D) (upd H2 D (.lst ys))) fin (fun C hC e s' q => comp_raised I2 f2 hC q) ?_
  rintro D C ys H' s' J1 hD ⟨m, hm⟩ hC hF
  exact ⟨m, hm, fun h' hs' => ⟨.ref D, _, J1.turned (t' := s'.toks) (fun b o hb e => hs'.extBut b o hb e) hC.1 hC.2.1 hC.2.2.2.1 hC.2.2.2.2.1 hC.2.2.2.2.2, rfl, hF D hD⟩⟩
end
end L2
namespace L2
open PySem PySem.Spec PyProof.Rows PySem.Builtin PySem.Builtin.Str
def isNon (u : Value) : Bool := match u with | .none => true | _ => false
section
variable {X : Cx}
theorem any_non : ∀ {xs : List V} {us : List Value}, Vals xs us → (∀ v ∈ xs, v = .non ∨ ∃ a, v = .ref a) → us.any isNon = xs.any fun v => decide (v = .non)
  | _, _, .nil, _ => rfl
  | y :: xs, u :: us, .cons r t, h => by
    rw [List.any_cons, List.any_cons, any_non t fun v hv => h v (List.mem_cons_of_mem _ hv)]
    congr 1
    rcases h y List.mem_cons_self with rfl | ⟨a, rfl⟩
    · cases r; rfl
    · cases r; rfl
theorem op_inNon (hu : X.A.units + 1 < cLine) : OpR X (compareOp .In) (fun x y H Q => ∃ (p : Addr) (xs : List V), x = .non ∧ y = .ref p ∧ SqL X.K H p xs ∧ (∀ v ∈ xs, v = .non ∨ ∃ a zs, v = .ref a ∧ SqT X.K H a zs) ∧ Q (.bl (xs.any fun v => decide (v = .non))) H) := by
  intro pins s σ H x y v u Q I rx ry h
  obtain ⟨p, xs, rfl, rfl, hq, hv, q⟩ := h
  cases ry
  cases rx
  obtain ⟨its, r, pl, hz⟩ := I.list hq
  have hl := r.length
  refine SeqAt.in_listAt isNon pl.isList (fun w hw => ?_) ⟨.bl _, H, I, rfl, ?_⟩
  · have hw' : w ∈ its := by simpa using hw
    obtain ⟨i, hi, rfl⟩ := List.mem_iff_getElem.mp hw'
    have hx : xs[i]? = some (xs[i]'(by omega)) := List.getElem?_eq_getElem (by omega)
    obtain ⟨u, h1, h2⟩ := r.get hx
    rw [List.getElem?_eq_getElem hi] at h1
    have h1' := Option.some.inj h1
    subst h1'
    rcases hv _ (List.getElem_mem (show i < xs.length by omega)) with e | ⟨a, zs, e, ht⟩
    · rw [e] at h2
      have e2 : its[i] = Value.none := h2
      rw [e2]
      exact SeqAt.EqAt.same _
    · rw [e] at h2
      have e2 : its[i] = Value.ref a := h2
      rw [e2]
      obtain ⟨its', _, pt, _⟩ := I.tuple ht
      exact SeqAt.EqAt.tuple_none pt hu
  · rw [show its.toArray.any isNon = its.any isNon by simp, any_non r fun v hm => (hv v hm).imp id fun ⟨a, _, e, _⟩ => ⟨a, e⟩]
    exact q
theorem rep_size {α : Type} (a : Array α) : ∀ (n : Nat) (acc : Array α), ((List.replicate n a).foldl (· ++ ·) acc).size = acc.size + n * a.size
  | 0, acc => by simp
  | n + 1, acc => by
    rw [List.replicate_succ, List.foldl_cons, rep_size a n, Array.size_append, Nat.succ_mul]
    omega
theorem op_mulS : OpR X (binaryOp .Mult) (fun x y H Q => ∃ (z : Str) (n : Nat), x = .str z ∧ y = .int n ∧ 2 ≤ n ∧ n ≤ 10000 ∧ 0 < z.length ∧ z.length ≤ 10 ∧ Q (.str ⟨(List.replicate n z.cps).foldl (· ++ ·) #[]⟩) H) := by
  intro pins s σ H x y v u Q I rx ry h
  obtain ⟨z, n, rfl, rfl, h2, h3, h4, h5, q⟩ := h
  obtain ⟨t, rfl⟩ := rx
  obtain ⟨t', rfl⟩ := ry
  have hm : z.length * n ≤ 10 * 10000 := Nat.mul_le_mul h5 h3
  refine P.mul_str (by rw [decide_eq_false (by omega), decide_eq_false (by omega)]; rfl) (fun _ _ => ?_) (fun _ _ => ?_) ?_
  · refine Int.not_lt.mpr (Int.le_ediv_of_mul_le (by omega) ?_)
    have : (z.length : Int) * (n : Int) = ((z.length * n : Nat) : Int) := by simp
    rw [this]
    omega
  · unfold tooLong
    rw [Int.toNat_natCast]
    exact decide_eq_false (Nat.not_lt.mpr (Nat.le_trans hm (by decide)))
  rw [if_neg (by omega), if_neg (by simp; omega)]
  refine ⟨?_, ⟨.str _, H, I.tok _, ⟨_, rfl⟩, q⟩⟩
  show ((List.replicate n z.cps).foldl (· ++ ·) #[]).size ≤ _
  rw [rep_size]
  have : n * z.cps.size = z.length * n := Nat.mul_comm _ _
  exact Nat.le_trans (show (#[] : Array Nat).size + n * z.cps.size ≤ 100000 by rw [this]; simp; omega) (by decide)
theorem for_str {z : Str} {g : TG} {tb : TS} {D : Ends} {σ : St} {H : Hp} (Pv : Nat → St → Hp → Prop) (h0 : Pv 0 σ H)
    (hs : ∀ (i : Nat) (c : Nat) σ H, z.cps[i]? = some c → Pv i σ H → g (.str ⟨#[c]⟩) σ H fun σ2 H2 => tb { D with nx := Pv (i + 1), ct := Pv (i + 1), bk := D.nx } σ2 H2) (hd : ∀ σ H, Pv z.cps.size σ H → D.nx σ H) :
    ∃ W : Nat → Nat → St → Hp → Prop, (∃ m, W 0 m σ H) ∧ ∀ i m σ H, W i m σ H →
      ((Its z).stop i H ∧ D.nx σ H) ∨ ((Its z).go i H ∧ ∃ N : St → Hp → Prop, (∀ σ' H', N σ' H' → ∃ m', m' < m ∧ W (i + 1) m' σ' H') ∧ ∀ x H', (Its z).yld i H x H' → g x σ H' fun σ2 H2 => tb { D with nx := N, ct := N, bk := D.nx } σ2 H2) := by
  refine ⟨fun i m σ H => m = z.cps.size - i ∧ i ≤ z.cps.size ∧ Pv i σ H, ⟨z.cps.size, by simp, Nat.zero_le _, h0⟩, ?_⟩
  rintro i m σ H ⟨rfl, hi, p⟩
  by_cases hlt : i < z.cps.size
  · refine .inr ⟨hlt, Pv (i + 1), fun σ' H' p' => ⟨z.cps.size - (i + 1), by omega, rfl, hlt, p'⟩, fun x H' y => ?_⟩
    obtain ⟨rfl, c, e, rfl⟩ := y
    exact hs i c σ _ e p
  · have e : i = z.cps.size := by omega
    subst e
    exact .inl ⟨Nat.le_refl _, hd σ H p⟩
end
end L2
namespace U
open PySem.Builtin (bitAnd bitXor)
inductive Gate where
  | turn (w : Int) (ws : List Int)
  | swap (a b : Int)
  deriving DecidableEq, Repr
def isWire (n w : Int) : Bool := decide (0 ≤ w) && decide (w < n)
def rising (ws : List Int) : Bool := (List.zipWith (fun a b => decide (a < b)) ws (ws.drop 1)).all id
def isGate (n : Int) : Gate → Bool
  | .turn w ws => isWire n w && !ws.contains w && (rising ws && ws.all (isWire n))
  | .swap a b => isWire n a && (isWire n b && decide (a < b))
theorem isGate_turn {n w : Int} {ws : List Int} : isGate n (.turn w ws) = (isWire n w && !ws.contains w && (rising ws && ws.all (isWire n))) := rfl
theorem isGate_swap {n a b : Int} : isGate n (.swap a b) = (isWire n a && (isWire n b && decide (a < b))) := rfl
def pw (w : Int) : Int := ([1, 2, 4, 8, 16] : List Int).getD w.toNat 0
def up (w s : Int) : Bool := !decide (bitAnd s (pw w) = 0)
def after (g : Gate) (s : Int) : Int := match g with
  | .turn w ws => if (ws.map fun x => up x s).all id = true then bitXor s (pw w) else s
  | .swap a b => if up a s = up b s then s else bitXor (bitXor s (pw a)) (pw b)
def row (gs : List Gate) (s : Int) : Int := gs.foldl (fun s g => after g s) s
def bit (s w : Int) : Int := s / pw w % 2
def bits (n : Nat) (s : Int) : List Int := (List.range n).map fun (w : Nat) => bit s (w : Int)
def flip (g : Gate) (h : List Int) : List Int := match g with
  | .swap a b => (h.set a.toNat (h.getD b.toNat 0)).set b.toNat (h.getD a.toNat 0)
  | .turn w ws => if (ws.filter fun x => decide (h.getD x.toNat 0 = 0)).length = 0 then h.set w.toNat (1 - h.getD w.toNat 0) else h
def unbits (n : Nat) (h : List Int) : Int := ((List.range n).map fun (w : Nat) => h.getD w 0 * pw (w : Int)).sum
def step (n : Nat) (g : Gate) (s : Int) : Int := unbits n (flip g (bits n s))
def states (n : Nat) : List Int := (List.range (2 ^ n)).map fun (i : Nat) => (i : Int)
def table (n : Nat) (gs : List Gate) : List Int := gs.foldl (fun t g => t.map (step n g)) (states n)
def subs : List (List Int) := [[], [0], [1], [2], [3], [0, 1], [0, 2], [0, 3], [1, 2], [1, 3], [2, 3], [0, 1, 2], [0, 1, 3], [0, 2, 3], [1, 2, 3], [0, 1, 2, 3]]
def gates : List Gate := ([0, 1, 2, 3].flatMap fun w => subs.map fun ws => Gate.turn w ws) ++ [0, 1, 2, 3].flatMap fun a => [0, 1, 2, 3].map fun b => Gate.swap a b
def okAll (n : Nat) : Bool := gates.all fun g => !isGate n g || (List.range (2 ^ n)).all fun s => decide (after g (s : Int) = step n g s ∧ 0 ≤ after g (s : Int) ∧ after g (s : Int) < 2 ^ n)
def allG (n : Nat) (gs : List Gate) : Prop := ∀ g ∈ gs, isGate n g = true
def others (n : Nat) (w : Int) : List Int := ((List.range n).map fun (i : Nat) => (i : Int)).filter fun o => !decide (o = w)
def watch (c : Int) (os : List Int) : List Int := os.filter fun o => decide (c / 64 / (1 + 2 * o) % 2 = 1)
def swapBy (c : Int) (n : Nat) : Int := (others n (c / 7 % n)).getD (c / 64 % ((others n (c / 7 % n)).length : Int)).toNat 0
def gateBy (c : Int) (n m : Nat) : Gate :=
  if c % 4 = 1 ∧ 1 < n then .swap (if swapBy c n < c / 7 % n then swapBy c n else c / 7 % n) (if swapBy c n > c / 7 % n then swapBy c n else c / 7 % n)
  else .turn (c / 7 % n) ((if c % 4 = 3 then others n (c / 7 % n) else watch c (others n (c / 7 % n))).take m)
def draw (c k b : Int) : Int :=
  let s1 := (c % 2147483647 + 977 * k + 1) * 48271 % 2147483647
  let s2 := s1 * s1 % 2147483629
  let s3 := (s2 + 40692 * (k + 3)) * 69621 % 2147483647
  s3 / 8 % b
def row0 (ns : List Int) (f n m : Nat) : List Gate := (List.range (ns.getD f 0 % 13).toNat).map fun (k : Nat) => gateBy (draw (ns.getD (f + 1) 0) k 1000003) n m
def row4 (ns : List Int) (f n m : Nat) : List Gate := (List.range 4).map fun (k : Nat) => gateBy (ns.getD (f + 2 + k) 0) n m
def row1 (ns : List Int) (f n m : Nat) : List Gate := if ns.getD f 0 / 13 % 3 = 1 then row0 ns f n m ++ row4 ns f n m else row0 ns f n m
def rowBy (ns : List Int) (f n m : Nat) : List Gate := if ns.getD f 0 / 39 % 4 = 1 then row1 ns f n m ++ ((row1 ns f n m).drop 2).reverse else row1 ns f n m
end U
namespace U
def fig (c : Nat) : Bool := decide (48 ≤ c) && decide (c ≤ 51)
def nums (r : List Nat) : List Int := r.map fun (c : Nat) => (c : Int) - 48
def gateOf (h : Option Nat) (ns : List Int) : Option Gate :=
  if h = some 116 ∧ ns ≠ [] then some (.turn (ns.getD 0 0) (ns.drop 1)) else if h = some 115 ∧ ns.length = 2 then some (.swap (ns.getD 0 0) (ns.getD 1 0)) else none
def parse (w : List Nat) : Option Gate := if (w.drop 1).all fig = true then gateOf w.head? (nums (w.drop 1)) else none
def dig (x : Int) : Nat := 48 + x.toNat
def showG : Gate → List Nat
  | .turn w ws => 116 :: dig w :: ws.map dig
  | .swap a b => [115, dig a, dig b]
def showAll : Bool := gates.all fun g => decide (parse (showG g) = some g) && (showG g).all (fun c => decide (c ≠ 32) && decide (c < 128)) && decide ((showG g).length ≤ 6)
def joinL : List (List Nat) → List Nat
  | [] => []
  | [w] => w
  | w :: v :: r => w ++ 32 :: joinL (v :: r)
theorem cut_eq : ∀ {a b x y : List Nat}, 32 ∉ a → 32 ∉ b → a ++ 32 :: x = b ++ 32 :: y → a = b ∧ x = y
  | [], [], x, y, _, _, h => ⟨rfl, by simpa using h⟩
  | [], c :: b, x, y, _, hb, h => by
    simp at h
    exact absurd (List.mem_cons.mpr (.inl h.1)) hb
  | c :: a, [], x, y, ha, _, h => by
    simp at h
    exact absurd (List.mem_cons.mpr (.inl h.1.symm)) ha
  | c :: a, d :: b, x, y, ha, hb, h => by
    simp at h
    obtain ⟨h1, h2⟩ := h
    obtain ⟨e1, e2⟩ := cut_eq (fun z => ha (List.mem_cons_of_mem _ z)) (fun z => hb (List.mem_cons_of_mem _ z)) h2
    exact ⟨by rw [h1, e1], e2⟩
theorem joinL_inj : ∀ {a b : List (List Nat)}, a ≠ [] → b ≠ [] → (∀ w ∈ a, 32 ∉ w) → (∀ w ∈ b, 32 ∉ w) → joinL a = joinL b → a = b
  | [], _, h, _, _, _, _ => absurd rfl h
  | _ :: _, [], _, h, _, _, _ => absurd rfl h
  | [w], [v], _, _, _, _, h => by
    have h' : w = v := h
    rw [h']
  | [w], v :: u :: r, _, _, ha, _, h => by
    have h' : w = v ++ 32 :: joinL (u :: r) := h
    exact absurd (by rw [h']; simp) (ha w List.mem_cons_self)
  | w :: u :: r, [v], _, _, _, hb, h => by
    have h' : w ++ 32 :: joinL (u :: r) = v := h
    exact absurd (by rw [← h']; simp) (hb v List.mem_cons_self)
  | w :: u :: r, v :: z :: q, _, _, ha, hb, h => by
    have h' : w ++ 32 :: joinL (u :: r) = v ++ 32 :: joinL (z :: q) := h
    obtain ⟨e1, e2⟩ := cut_eq (ha w List.mem_cons_self) (hb v List.mem_cons_self) h'
    have := joinL_inj (a := u :: r) (b := z :: q) (by simp) (by simp) (fun x hx => ha x (List.mem_cons_of_mem _ hx)) (fun x hx => hb x (List.mem_cons_of_mem _ hx)) e2
    rw [e1, this]
end U
namespace U
theorem joinL_len : ∀ {ws : List (List Nat)}, (∀ w ∈ ws, w.length ≤ 6) → (joinL ws).length ≤ 7 * ws.length
  | [], _ => Nat.le_refl _
  | [w], h => by have := h w List.mem_cons_self; show w.length ≤ 7; omega
  | w :: v :: r, h => by
    have h1 := h w List.mem_cons_self
    have h2 := joinL_len (ws := v :: r) fun x hx => h x (List.mem_cons_of_mem _ hx)
    show (w ++ 32 :: joinL (v :: r)).length ≤ _
    rw [List.length_append, List.length_cons]
    simp only [List.length_cons] at h2 ⊢
    omega
theorem joinL_mem : ∀ {ws : List (List Nat)} {c : Nat}, c ∈ joinL ws → c = 32 ∨ ∃ w ∈ ws, c ∈ w
  | [], _, h => by cases h
  | [w], c, h => .inr ⟨w, List.mem_cons_self, h⟩
  | w :: v :: r, c, h => by
    have h' : c ∈ w ++ 32 :: joinL (v :: r) := h
    rcases List.mem_append.mp h' with h' | h'
    · exact .inr ⟨w, List.mem_cons_self, h'⟩
    · rcases List.mem_cons.mp h' with h' | h'
      · exact .inl h'
      · rcases joinL_mem (ws := v :: r) h' with h' | ⟨x, hx, hc⟩
        · exact .inl h'
        · exact .inr ⟨x, List.mem_cons_of_mem _ hx, hc⟩
end U
namespace U
def parseW (n : Int) (w : List Nat) : Option Gate := (parse w).bind fun g => if isGate n g = true then some g else none
theorem rise_iff {ws : List Int} : rising ws = true ↔ ∀ k, k + 1 < ws.length → ws.getD k 0 < ws.getD (k + 1) 0 := by
  unfold rising
  rw [List.all_eq_true]
  constructor
  · intro h k hk
    have hk1 : k < ws.length := by omega
    have hk2 : k < (ws.drop 1).length := by rw [List.length_drop]; omega
    have hz : k < (List.zipWith (fun a b => decide (a < b)) ws (ws.drop 1)).length := by rw [List.length_zipWith]; omega
    have := h _ (List.getElem_mem hz)
    rw [List.getElem_zipWith] at this
    simp only [id_eq, decide_eq_true_eq, List.getElem_drop] at this
    rw [List.getD_eq_getElem?_getD, List.getD_eq_getElem?_getD, List.getElem?_eq_getElem hk1, List.getElem?_eq_getElem hk]
    have e : 1 + k = k + 1 := Nat.add_comm _ _
    simp only [e] at this
    exact this
  · intro h b hb
    obtain ⟨k, hk, rfl⟩ := List.mem_iff_getElem.mp hb
    have hk' := hk
    rw [List.length_zipWith, List.length_drop] at hk'
    rw [List.getElem_zipWith]
    have := h k (by omega)
    rw [List.getD_eq_getElem?_getD, List.getD_eq_getElem?_getD, List.getElem?_eq_getElem (by omega), List.getElem?_eq_getElem (by omega)] at this
    simp only [id_eq, decide_eq_true_eq, List.getElem_drop]
    have e : 1 + k = k + 1 := Nat.add_comm _ _
    simp only [e]
    exact this
theorem nums_len (r : List Nat) : (nums r).length = r.length := by unfold nums; rw [List.length_map]
def figsIn (n : Int) (w : List Nat) : Prop := ∀ c ∈ w.drop 1, fig c = true ∧ (c : Int) - 48 < n
theorem figsIn.wire {n : Int} {w : List Nat} (h : figsIn n w) : ∀ x ∈ nums (w.drop 1), isWire n x = true := fun x hx => by
  unfold nums at hx
  obtain ⟨c, hc, rfl⟩ := List.mem_map.mp hx
  obtain ⟨h1, h2⟩ := h c hc
  unfold fig at h1
  simp only [Bool.and_eq_true, decide_eq_true_eq] at h1
  simp only [isWire, Bool.and_eq_true, decide_eq_true_eq]
  omega
theorem figsIn.all {n : Int} {w : List Nat} (h : figsIn n w) : (w.drop 1).all fig = true := List.all_eq_true.mpr fun c hc => (h c hc).1
theorem wire_figs {n : Int} {w : List Nat} (hf : (w.drop 1).all fig = true) (h : ∀ x ∈ nums (w.drop 1), isWire n x = true) : figsIn n w := fun c hc => by
  refine ⟨List.all_eq_true.mp hf c hc, ?_⟩
  have := h ((c : Int) - 48) (List.mem_map.mpr ⟨c, hc, rfl⟩)
  simp only [isWire, Bool.and_eq_true, decide_eq_true_eq] at this
  exact this.2
theorem parseW_figs {n : Int} {w : List Nat} {g : Gate} (h : parseW n w = some g) : figsIn n w := by
  unfold parseW parse at h
  split at h
  · rename_i hf
    refine wire_figs hf ?_
    generalize nums (w.drop 1) = ns at h
    unfold gateOf at h
    split at h
    · rename_i hc
      simp only [Option.bind_some] at h
      split at h
      · rename_i hg
        rw [isGate_turn] at hg
        simp only [Bool.and_eq_true] at hg
        intro x hx
        cases ns with
        | nil => cases hx
        | cons a r =>
          rcases List.mem_cons.mp hx with rfl | hx
          · exact hg.1.1
          · exact List.all_eq_true.mp hg.2.2 x hx
      · cases h
    · split at h
      · rename_i hc
        simp only [Option.bind_some] at h
        split at h
        · rename_i hg
          rw [isGate_swap] at hg
          simp only [Bool.and_eq_true] at hg
          intro x hx
          match ns, hc.2, hx, hg with
          | [a, b], _, hx, hg =>
            rcases List.mem_cons.mp hx with rfl | hx
            · exact hg.1
            · rcases List.mem_cons.mp hx with rfl | hx
              · exact hg.2.1
              · cases hx
        · cases h
      · cases h
  · cases h
theorem parseW_eq {n : Int} {w : List Nat} (h : figsIn n w) : parseW n w = (gateOf w.head? (nums (w.drop 1))).bind fun g => if isGate n g = true then some g else none := by
  unfold parseW parse
  rw [if_pos h.all]
theorem pw_swap {n : Int} {w : List Nat} (h : figsIn n w) (hh : w.head? = some 115) : parseW n w =
    if (nums (w.drop 1)).length = 2 ∧ (nums (w.drop 1)).getD 0 0 < (nums (w.drop 1)).getD 1 0 then some (.swap ((nums (w.drop 1)).getD 0 0) ((nums (w.drop 1)).getD 1 0)) else none := by
  rw [parseW_eq h, hh]
  have hw := h.wire
  generalize nums (w.drop 1) = ns at hw
  unfold gateOf
  rw [if_neg (by rintro ⟨z, _⟩; cases z)]
  by_cases hl : ns.length = 2
  · rw [if_pos ⟨rfl, hl⟩]
    match ns, hl, hw with
    | [a, b], _, hw =>
      have ha := hw a (by simp)
      have hb := hw b (by simp)
      have hg : isGate n (.swap a b) = decide (a < b) := by rw [isGate_swap, ha, hb]; rfl
      show (if isGate n (.swap a b) = true then some (Gate.swap a b) else none) = if [a, b].length = 2 ∧ a < b then some (Gate.swap a b) else none
      rw [hg]
      by_cases hab : a < b
      · rw [if_pos (by simpa using hab), if_pos ⟨rfl, hab⟩]
      · rw [if_neg (by simpa using hab), if_neg (fun z => hab z.2)]
  · rw [if_neg (fun z => hl z.2), if_neg (fun z => hl z.1)]
    rfl
def turnOk (ns : List Int) : Bool := (List.range (ns.length - 1)).all fun j => !decide (ns.getD (j + 1) 0 = ns.getD 0 0) && (decide (j = 0) || decide (ns.getD j 0 < ns.getD (j + 1) 0))
theorem turnOk_iff {ns : List Int} : turnOk ns = true ↔ ∀ j, j + 1 < ns.length → ns.getD (j + 1) 0 ≠ ns.getD 0 0 ∧ (j = 0 ∨ ns.getD j 0 < ns.getD (j + 1) 0) := by
  unfold turnOk
  rw [List.all_eq_true]
  constructor
  · intro h j hj
    have := h j (List.mem_range.mpr (by omega))
    simpa using this
  · intro h j hj
    have hj' := List.mem_range.mp hj
    have := h j (by omega)
    simpa using this
theorem turnOk_gate {n : Int} {a : Int} {r : List Int} (hw : ∀ x ∈ a :: r, isWire n x = true) : isGate n (.turn a r) = turnOk (a :: r) := by
  rw [isGate_turn, hw a List.mem_cons_self, List.all_eq_true.mpr fun x hx => hw x (List.mem_cons_of_mem _ hx), Bool.and_true, Bool.true_and, Bool.eq_iff_iff, turnOk_iff, Bool.and_eq_true, rise_iff]
  simp only [Bool.not_eq_true', List.length_cons, List.getD_cons_succ, List.getD_cons_zero]
  constructor
  · rintro ⟨h1, h2⟩ j hj
    refine ⟨fun z => ?_, ?_⟩
    · have hm : a ∈ r := by
        rw [← z, List.getD_eq_getElem?_getD, List.getElem?_eq_getElem (by omega)]
        exact List.getElem_mem _
      have : r.contains a = true := by simpa using hm
      rw [h1] at this
      cases this
    · cases j with
      | zero => exact .inl rfl
      | succ j => exact .inr (h2 j (by omega))
  · intro h
    refine ⟨?_, fun k hk => ?_⟩
    · cases hc : r.contains a with
      | false => rfl
      | true =>
        have hm : a ∈ r := by simpa using hc
        obtain ⟨j, hj, e⟩ := List.mem_iff_getElem.mp hm
        refine absurd ?_ (h j (by omega)).1
        rw [List.getD_eq_getElem?_getD, List.getElem?_eq_getElem hj]
        exact e
    · rcases (h (k + 1) (by omega)).2 with z | z
      · cases z
      · exact z
theorem pw_turn {n : Int} {w : List Nat} (h : figsIn n w) (hh : w.head? = some 116) (hne : nums (w.drop 1) ≠ []) : parseW n w =
    if turnOk (nums (w.drop 1)) = true then some (.turn ((nums (w.drop 1)).getD 0 0) ((nums (w.drop 1)).drop 1)) else none := by
  rw [parseW_eq h, hh]
  have hw := h.wire
  generalize nums (w.drop 1) = ns at hw hne
  unfold gateOf
  rw [if_pos ⟨rfl, hne⟩]
  cases ns with
  | nil => exact absurd rfl hne
  | cons a r =>
    show (if isGate n (.turn a r) = true then some (Gate.turn a r) else none) = _
    rw [turnOk_gate hw]
    rfl
theorem pw_none {n : Int} {w : List Nat} (h : figsIn n w) (h1 : w.head? ≠ some 115) (h2 : w.head? ≠ some 116 ∨ nums (w.drop 1) = []) : parseW n w = none := by
  rw [parseW_eq h]
  unfold gateOf
  rw [if_neg (fun z => h2.elim (fun y => y z.1) fun y => z.2 y), if_neg fun z => h1 z.1]
  rfl
theorem parseW_some {n : Int} {w : List Nat} {g : Gate} : parseW n w = some g ↔ parse w = some g ∧ isGate n g = true := by
  unfold parseW
  cases parse w with
  | none => simp
  | some g' =>
    simp only [Option.bind_some, Option.some.injEq]
    by_cases h : isGate n g' = true
    · rw [if_pos h]
      constructor
      · intro e; cases e; exact ⟨rfl, h⟩
      · rintro ⟨e, _⟩; rw [e]
    · rw [if_neg h]
      constructor
      · intro e; cases e
      · rintro ⟨e, z⟩; rw [e] at h; exact absurd z h
theorem mem_len : ∀ {ws : List (List Nat)} {w : List Nat}, w ∈ ws → w.length ≤ (joinL ws).length
  | [], _, h => by cases h
  | [v], w, h => by
    have e : w = v := by simpa using h
    rw [e]
    exact Nat.le_refl _
  | v :: u :: r, w, h => by
    show w.length ≤ (v ++ 32 :: joinL (u :: r)).length
    rw [List.length_append, List.length_cons]
    rcases List.mem_cons.mp h with rfl | h
    · omega
    · have := mem_len (ws := u :: r) h
      omega
theorem mem_joinL : ∀ {ws : List (List Nat)} {w : List Nat} {c : Nat}, w ∈ ws → c ∈ w → c ∈ joinL ws
  | [], _, _, h, _ => by cases h
  | [v], w, c, h, hc => by
    have e : w = v := by simpa using h
    rw [e] at hc
    exact hc
  | v :: u :: r, w, c, h, hc => by
    show c ∈ v ++ 32 :: joinL (u :: r)
    rcases List.mem_cons.mp h with rfl | h
    · exact List.mem_append_left _ hc
    · exact List.mem_append_right _ (List.mem_cons_of_mem _ (mem_joinL (ws := u :: r) h hc))
theorem rep_join : ∀ n : Nat, [116, 48] ++ (List.replicate n [32, 116, 48]).flatten = joinL (List.replicate (n + 1) [116, 48])
  | 0 => rfl
  | n + 1 => by
    have ih := rep_join n
    show [116, 48] ++ ([32, 116, 48] ++ (List.replicate n [32, 116, 48]).flatten) = [116, 48] ++ 32 :: joinL (List.replicate (n + 1) [116, 48])
    rw [← ih]
    rfl
end U
namespace UG
open PySem L2
def DefIn (K : PySem.W.Frag) (x : Str) (st : Stmt) : Prop := ∃ (f : Addr) (oc : Value) (od : Option Addr) (kV dc pm : Value) (an : Option Addr) (cd ct : Value) (sl : Array (Option Value)),
  PySem.W.nsIn K mainGlobals x = some (some (.ref f)) ∧ K.lookup f = some ⟨oc, od, .func (PySem.W.fnOf x x (defArgs st) (defBody st) (defScope st) .none kV dc pm an cd ct), sl⟩ ∧ PySem.W.codeIn K cd x = true ∧ PySem.W.keepIn K (.ref f) = true
theorem DefIn.of {K : PySem.W.Frag} {x : Str} {st : Stmt} {f : Addr} {oc : Value} {od : Option Addr} {kV dc pm : Value} {an : Option Addr} {cd ct : Value} {sl : Array (Option Value)}
    (a : PySem.W.nsIn K mainGlobals x = some (some (.ref f))) (l : K.lookup f = some ⟨oc, od, .func (PySem.W.fnOf x x (defArgs st) (defBody st) (defScope st) .none kV dc pm an cd ct), sl⟩) (c : PySem.W.codeIn K cd x = true) (k : PySem.W.keepIn K (.ref f) = true) : DefIn K x st :=
  ⟨f, oc, od, kV, dc, pm, an, cd, ct, sl, a, l, c, k⟩
theorem DefIn.t {K : PySem.W.Frag} {mg : Str → Option Value} {h : Heap} {x : Str} {st : Stmt} {ps : List Str} (X : K.In h) (G : h.Ns mainGlobals mg) (D : DefIn K x st)
    (hb : ∀ (kV doc pm : Value) (an : Option Addr) (cdv ct : Value) (us : List Value), us.length = ps.length → bindArgs (PySem.W.fnOf x x (defArgs st) (defBody st) (defScope st) .none kV doc pm an cdv ct) ⟨us, []⟩ = pure (ps.zip us)) : DefT K mg x st ps := by
  obtain ⟨f, oc, od, kV, dc, pm, an, cd, ct, sl, a, l, c, k⟩ := D
  exact ⟨f, _, PySem.W.mg_of X G a, fun_mk l c k, (fun_mk l c k).binds hb⟩
end UG
namespace UG
open PySem L2
def top (i : Nat) : Stmt := PySem.Challenge.pw_undogates_k12_read_or_refused.main.body.getD i (.Pass ⟨0, 0, 0, 0⟩)
abbrev s_check_wires : Stmt := top 11
abbrev s_is_gate : Stmt := top 12
abbrev s_is_turn : Stmt := top 13
abbrev s_is_swap : Stmt := top 14
abbrev s_is_wire : Stmt := top 15
abbrev s_is_rising : Stmt := top 16
abbrev s_read : Stmt := top 19
abbrev s_read_gate : Stmt := top 20
abbrev s_gate_or_none : Stmt := top 21
abbrev s__law_cell_at : Stmt := top 23
abbrev s__law_draw : Stmt := top 24
abbrev s__law_word_of : Stmt := top 25
abbrev s__law_gate : Stmt := top 26
abbrev s__law_read : Stmt := top 27
abbrev s__law_word_by : Stmt := top 28
abbrev s__law_told : Stmt := top 29
abbrev s_law : Stmt := top 30
end UG
namespace UG
open PySem L2
def GateAt (K : PySem.W.Frag) (H : Hp) (v : V) (g : U.Gate) : Prop := ∃ a, v = .ref a ∧ match g with
  | .turn w ws => ∃ t, SqT K H a [.str "turn", .int w, .ref t] ∧ SqT K H t (ws.map V.int) ∧ ws.length ≤ 1000
  | .swap p q => SqT K H a [.str "swap", .int p, .int q]
theorem GateAt.mono {K : PySem.W.Frag} {H H' : Hp} {v : V} {g : U.Gate} (h : GateAt K H v g) (s : Same H H') : GateAt K H' v g := by
  obtain ⟨a, e, h⟩ := h
  refine ⟨a, e, ?_⟩
  cases g with
  | turn w ws => obtain ⟨t, h1, h2, h3⟩ := h; exact ⟨t, s.tup h1, s.tup h2, h3⟩
  | swap p q => exact s.tup h
abbrev RowAt (K : PySem.W.Frag) (H : Hp) (vs : List V) (gs : List U.Gate) : Prop := Paired (GateAt K H) vs gs
theorem RowAt.mono {K : PySem.W.Frag} {H H' : Hp} {vs : List V} {gs : List U.Gate} (h : RowAt K H vs gs) (s : Same H H') : RowAt K H' vs gs := Paired.mapP h fun _ _ q => q.mono s
theorem Paired.get {α β : Type} {F : α → β → Prop} : ∀ {l₁ : List α} {l₂ : List β} {i : Nat} {x : α}, Paired F l₁ l₂ → l₁[i]? = some x → ∃ y, l₂[i]? = some y ∧ F x y
  | _, _, _, _, .nil, e => by simp at e
  | _, _, 0, _, .cons r _, e => by simp at e; subst e; exact ⟨_, rfl, r⟩
  | _, _, i + 1, x, .cons _ t, e => by
    obtain ⟨y, h1, h2⟩ := Paired.get (i := i) (x := x) t (by simpa using e)
    exact ⟨y, by simpa using h1, h2⟩
theorem Paired.of {α β : Type} {F : α → β → Prop} : ∀ {l₁ : List α} {l₂ : List β}, l₁.length = l₂.length → (∀ (i : Nat) x y, l₁[i]? = some x → l₂[i]? = some y → F x y) → Paired F l₁ l₂
  | [], [], _, _ => .nil
  | [], _ :: _, h, _ => by cases h
  | _ :: _, [], h, _ => by cases h
  | x :: xs, y :: ys, h, k => .cons (k 0 x y rfl rfl) (Paired.of (by simpa using h) fun i a b e1 e2 => k (i + 1) a b (by simpa using e1) (by simpa using e2))
theorem ifT {b : Bool} {A B : Prop} (h : b = true) (q : A) : if b = true then A else B := by rw [if_pos h]; exact q
theorem ifF {b : Bool} {A B : Prop} (h : b = false) (q : B) : if b = true then A else B := by rw [if_neg (by rw [h]; decide)]; exact q
theorem ifB {b : Bool} {A B : Prop} (h1 : b = true → A) (h2 : b = false → B) : if b = true then A else B := by
  cases b with
  | true => exact iteT (h1 rfl)
  | false => exact iteF (h2 rfl)
theorem dI {a b : Int} : decide (V.int a = V.int b) = decide (a = b) := by
  by_cases h : a = b
  · rw [decide_eq_true h, decide_eq_true (by rw [h])]
  · rw [decide_eq_false h, decide_eq_false fun z => h (by injection z)]
theorem tt : decide (V.str "turn" = V.str "turn") = true := by decide +kernel
theorem st : decide (V.str "swap" = V.str "turn") = false := by decide +kernel
theorem ss : decide (V.str "swap" = V.str "swap") = true := by decide +kernel
theorem ts : decide (V.str "turn" = V.str "swap") = false := by decide +kernel
theorem len3 (n : Nat) (h : n ≤ 1000000 := by decide) : n ≤ sizeLine := Nat.le_trans h (by decide)
def powV : List V := ([1, 2, 4, 8, 16] : List Int).map V.int
theorem atI_ok {α : Type} {xs : List α} {i : Int} {x : α} (h0 : 0 ≤ i) (h : xs[i.toNat]? = some x) : atI xs i = some x := by
  have := atI_nat h
  rw [Int.toNat_of_nonneg h0] at this
  exact this
theorem atI_ints {ns : List Int} {i : Int} (h0 : 0 ≤ i) (h : i < (ns.length : Int)) : atI (ns.map V.int) i = some (.int (ns.getD i.toNat 0)) := by
  refine atI_ok h0 ?_
  have hi : i.toNat < ns.length := by omega
  rw [List.getElem?_map, List.getElem?_eq_getElem hi, List.getD_eq_getElem?_getD, List.getElem?_eq_getElem hi]
  rfl
structure TxtB (mg : Str → Option Value) : Prop where
  len : mg "len" = none
  all : mg "all" = none
  any : mg "any" = none
  range : mg "range" = none
  zip : mg "zip" = none
  sum : mg "sum" = none
  min : mg "min" = none
  max : mg "max" = none
  list : mg "list" = none
  tuple : mg "tuple" = none
  reversed : mg "reversed" = none
  sorted : mg "sorted" = none
  isin : mg "isinstance" = none
  int : mg "int" = none
  bool : mg "bool" = none
  str : mg "str" = none
  enumerate : mg "enumerate" = none
  abs : mg "abs" = none
  dict : mg "dict" = none
  set : mg "set" = none
  divmod : mg "divmod" = none
  ord : mg "ord" = none
structure TxtW (mg : Str → Option Value) : Prop extends TxtB mg where
  mw : ∃ t, mg "MOST_WIRES" = some (.int 4 t)
structure TxtP (K : PySem.W.Frag) (mg : Str → Option Value) (aP : Addr) : Prop extends TxtW mg where
  pow : mg "POWERS" = some (.ref aP)
  powT : ∀ H, SqT K H aP powV
structure Txt (K : PySem.W.Frag) (mg : Str → Option Value) (aP : Addr) : Prop extends TxtP K mg aP where
  mt : ∃ t, mg "MOST_GATES" = some (.int 1000 t)
def spWire : Sp := fun vs H Q _ => ∃ n x, vs = [.int n, .int x] ∧ Q (.bl (U.isWire n x)) H
def spUp : Sp := fun vs H Q _ => ∃ w s, vs = [.int w, .int s] ∧ 0 ≤ w ∧ w < 5 ∧ Q (.bl (U.up w s)) H
def spWires : Sp := fun vs H Q _ => ∃ n : Int, vs = [.int n] ∧ 1 ≤ n ∧ n ≤ 4 ∧ Q .non H
def spSwap : Sp := fun vs H Q _ => ∃ n a b, vs = [.int n, .int a, .int b] ∧ Q (.bl (U.isGate n (.swap a b))) H
def spRising (K : PySem.W.Frag) : Sp := fun vs H Q _ => ∃ (t : Addr) (ns : List Int), vs = [.ref t] ∧ SqT K H t (ns.map V.int) ∧ ns.length ≤ 1000 ∧ ∀ H', Same H H' → Q (.bl (U.rising ns)) H'
def spTurn (K : PySem.W.Frag) : Sp := fun vs H Q _ => ∃ (n w : Int) (t : Addr) (ws : List Int), vs = [.int n, .int w, .ref t] ∧ SqT K H t (ws.map V.int) ∧ ws.length ≤ 1000 ∧ ∀ H', Same H H' → Q (.bl (U.isGate n (.turn w ws))) H'
def spGate (K : PySem.W.Frag) : Sp := fun vs H Q _ => ∃ n v g, vs = [.int n, v] ∧ GateAt K H v g ∧ ∀ H', Same H H' → Q (.bl (U.isGate n g)) H'
structure RowOk (K : PySem.W.Frag) (H : Hp) (n : Nat) (r : Addr) (vs : List V) (gs : List U.Gate) : Prop where
  l : SqL K H r vs
  g : RowAt K H vs gs
  ok : U.allG n gs
  sz : gs.length ≤ 1000
theorem RowOk.mono {K : PySem.W.Frag} {H H' : Hp} {n : Nat} {r : Addr} {vs : List V} {gs : List U.Gate} (h : RowOk K H n r vs gs) (s : Same H H') : RowOk K H' n r vs gs := ⟨s.seq h.l, h.g.mono s, h.ok, h.sz⟩
theorem RowOk.len {K : PySem.W.Frag} {H : Hp} {n : Nat} {r : Addr} {vs : List V} {gs : List U.Gate} (h : RowOk K H n r vs gs) : vs.length = gs.length := Paired.length h.g
def spCheck (K : PySem.W.Frag) : Sp := fun vs H Q _ => ∃ (n : Nat) (r : Addr) (xs : List V) (gs : List U.Gate), vs = [.int n, .ref r] ∧ 1 ≤ n ∧ n ≤ 4 ∧ RowOk K H n r xs gs ∧ ∀ H', Same H H' → Q .non H'
def spATurn (K : PySem.W.Frag) : Sp := fun vs H Q _ => ∃ (n : Nat) (w : Int) (t : Addr) (ws : List Int) (s : Int), vs = [.int w, .ref t, .int s] ∧ SqT K H t (ws.map V.int) ∧ ws.length ≤ 1000 ∧ n ≤ 4 ∧ U.isGate n (.turn w ws) = true ∧ ∀ H', Same H H' → Q (.int (U.after (.turn w ws) s)) H'
def spASwap : Sp := fun vs H Q _ => ∃ (n : Nat) (a b s : Int), vs = [.int a, .int b, .int s] ∧ n ≤ 4 ∧ U.isGate n (.swap a b) = true ∧ Q (.int (U.after (.swap a b) s)) H
def spAGate (K : PySem.W.Frag) : Sp := fun vs H Q _ => ∃ (n : Nat) (v : V) (g : U.Gate) (s : Int), vs = [v, .int s] ∧ GateAt K H v g ∧ n ≤ 4 ∧ U.isGate n g = true ∧ ∀ H', Same H H' → Q (.int (U.after g s)) H'
def spARow (K : PySem.W.Frag) : Sp := fun vs H Q _ => ∃ (n : Nat) (r : Addr) (xs : List V) (gs : List U.Gate) (s : Int), vs = [.ref r, .int s] ∧ n ≤ 4 ∧ RowOk K H n r xs gs ∧ ∀ H', Same H H' → Q (.int (U.row gs s)) H'
def spLed (K : PySem.W.Frag) : Sp := fun vs H Q _ => ∃ (n : Nat) (r : Addr) (xs : List V) (gs : List U.Gate) (s : Int), vs = [.int n, .ref r, .int s] ∧ 1 ≤ n ∧ n ≤ 4 ∧ RowOk K H n r xs gs ∧ ∀ H', Same H H' → Q (.int (U.row gs s)) H'
def spTable (K : PySem.W.Frag) : Sp := fun vs H Q _ => ∃ (n : Nat) (r : Addr) (xs : List V) (gs : List U.Gate), vs = [.int n, .ref r] ∧ 1 ≤ n ∧ n ≤ 4 ∧ RowOk K H n r xs gs ∧
  ∀ t H', Same H H' → H t = none → H' t = some (.lst (((U.states n).map (U.row gs)).map V.int)) → Q (.ref t) H'
end UG
namespace UG
open PySem L2
theorem cut1 (ns : List Int) : cutV (ns.map V.int) (some 1) none = (ns.drop 1).map V.int := by
  unfold cutV
  rw [show HT.sIx (ns.map V.int).length 0 (some 1) = min 1 (ns.map V.int).length from HT.sIx_nat _ 0 1, HT.sIx_none, List.length_map]
  by_cases h : 1 ≤ ns.length
  · rw [Nat.min_eq_left h, ← List.map_drop, List.take_of_length_le (by simp)]
  · have : ns = [] := List.length_eq_zero_iff.mp (by omega)
    subst this
    rfl
theorem inV_ints (x : Int) : ∀ ws : List Int, inV (.int x) (ws.map V.int) = ws.contains x
  | [] => rfl
  | a :: ws => by
    have ih := inV_ints x ws
    unfold inV at ih ⊢
    rw [List.map_cons, List.any_cons, ih, List.contains_cons]
    show (a == x || _) = (x == a || _)
    rw [Bool.beq_comm]
theorem flat_ints : ∀ ws : List Int, (ws.map V.int).all flatV = true
  | [] => rfl
  | a :: ws => by rw [List.map_cons, List.all_cons, flat_ints ws]; rfl
theorem mapB_get {f : Int → Bool} {ns : List Int} {ys : List V} (hl : ys.length = (ns.map V.int).length) (h : ∀ (i : Nat) y, ys[i]? = some y → y = V.bl (f (ns.getD i 0))) : ys = (ns.map f).map V.bl := by
  rw [List.length_map] at hl
  apply List.ext_getElem?
  intro i
  by_cases hi : i < ns.length
  · have e : ys[i]? = some ys[i] := List.getElem?_eq_getElem (by omega)
    rw [e, h i _ e, List.map_map, List.getElem?_map, List.getElem?_eq_getElem hi, List.getD_eq_getElem?_getD, List.getElem?_eq_getElem hi]
    rfl
  · rw [List.getElem?_eq_none (by omega), List.getElem?_eq_none (by rw [List.length_map, List.length_map]; omega)]
theorem intAt {ns : List Int} {i : Nat} {x : V} (h : (ns.map V.int)[i]? = some x) : x = V.int (ns.getD i 0) ∧ i < ns.length := by
  have hi := (List.getElem?_eq_some_iff.mp h).1
  rw [List.length_map] at hi
  rw [List.getElem?_map, List.getElem?_eq_getElem hi] at h
  rw [List.getD_eq_getElem?_getD, List.getElem?_eq_getElem hi]
  exact ⟨(Option.some.inj h).symm, hi⟩
theorem getD_mem {ns : List Int} {i : Nat} (h : i < ns.length) : ns.getD i 0 ∈ ns := by
  rw [List.getD_eq_getElem?_getD, List.getElem?_eq_getElem h]
  exact List.getElem_mem h
theorem SqT.updL {K : PySem.W.Frag} {H : Hp} {t r : Addr} {xs ys : List V} {o : HO} (h : SqT K H t xs) (hr : H r = some (.lst ys)) : SqT K (upd H r o) t xs := by
  rcases h with (h | ⟨ob, h⟩) | h
  · exact .inl (.inl (by rw [upd_ne (ne_of h hr (by intro z; cases z))]; exact h))
  · exact .inl (.inr ⟨ob, by rw [upd_ne (ne_of h hr (by intro z; cases z))]; exact h⟩)
  · exact .inr h
theorem GateAt.updL {K : PySem.W.Frag} {H : Hp} {v : V} {g : U.Gate} {r : Addr} {ys : List V} {o : HO} (h : GateAt K H v g) (hr : H r = some (.lst ys)) : GateAt K (upd H r o) v g := by
  obtain ⟨a, e, h⟩ := h
  refine ⟨a, e, ?_⟩
  cases g with
  | turn w ws => obtain ⟨t, h1, h2, h3⟩ := h; exact ⟨t, SqT.updL h1 hr, SqT.updL h2 hr, h3⟩
  | swap p q => exact SqT.updL h hr
theorem RowAt.updL {K : PySem.W.Frag} {H : Hp} {vs : List V} {gs : List U.Gate} {r : Addr} {ys : List V} {o : HO} (h : RowAt K H vs gs) (hr : H r = some (.lst ys)) : RowAt K (upd H r o) vs gs := Paired.mapP h fun _ _ q => q.updL hr
theorem Same.updR {H H' : Hp} {r : Addr} {o : HO} (s : Same H H') (h : H r = none) : Same H (upd H' r o) := fun b u e => by rw [upd_ne (ne_of_none e h)]; exact s b u e
def intsTo (n : Nat) : List Int := (List.range n).map fun (i : Nat) => (i : Int)
theorem filter_take {ns : List Int} {p : Int → Bool} {i : Nat} {x : Int} (h : ns[i]? = some x) : (ns.take (i + 1)).filter p = (ns.take i).filter p ++ (if p x = true then [x] else []) := by
  rw [List.take_succ, h, List.filter_append]
  congr 1
  show List.filter p [x] = _
  simp only [List.filter]
  cases p x <;> rfl
theorem comp_filter {J : It} {ns : List Int} {p : Int → Bool} {ti : TT} {cap : List (Option Nat)} {σ : St} {H : Hp} {Q : VK} (O : Over J (ns.map V.int) H) (hz : ns.length ≤ 1000) (hc : 0 < cap.length)
    (test : ∀ (i : Nat) (n : Int) (H' : Hp) (Q' : Bool → Hp → Prop), ns[i]? = some n → Same H H' → (∀ H'', Same H' H'' → Q' (p n) H'') → ti ((capS cap σ).set 0 (some (.int n))) H' Q')
    (fin : ∀ H', Same H H' → ∀ D, H' D = none → Q (.ref D) (upd H' D (.lst ((ns.filter p).map V.int)))) :
    compR (gName 0) ti (tVar 0) cap σ Q J H := by
  refine L2.comp_gen O (len3 _ (by rw [List.length_map]; omega)) (fun i ys H' => Same H H' ∧ ys = ((ns.take i).filter p).map V.int) ⟨Same.refl _, rfl⟩ (fun i ys H' q => q.1) (fun i x ys H' e q => ?_) (fun ys H' q D hD => ?_)
  · obtain ⟨s1, rfl⟩ := q
    obtain ⟨rfl, hi⟩ := intAt e
    have en : ns[i]? = some (ns.getD i 0) := by rw [List.getD_eq_getElem?_getD, List.getElem?_eq_getElem hi]; rfl
    refine test i _ H' _ en s1 fun H'' s2 => ifB (fun h => ?_) (fun h => ?_)
    · refine ⟨V.int (ns.getD i 0), ?_, s1.trans s2, ?_⟩
      · rw [List.getElem?_set_self]
        unfold capS
        rw [List.length_map]
        exact hc
      · rw [filter_take en, if_pos h, List.map_append]
        rfl
    · refine ⟨s1.trans s2, ?_⟩
      rw [filter_take en, if_neg (by rw [h]; decide), List.append_nil]
  · obtain ⟨s1, rfl⟩ := q
    rw [List.length_map, List.take_length]
    exact fin H' s1 D hD
theorem cutDrop (xs : List V) (k : Nat) : cutV xs (some (k : Int)) none = xs.drop k := by
  unfold cutV
  rw [HT.sIx_nat, HT.sIx_none]
  by_cases h : k ≤ xs.length
  · rw [Nat.min_eq_left h, List.take_of_length_le (by rw [List.length_drop]; exact Nat.le_refl _)]
  · rw [Nat.min_eq_right (by omega), List.drop_of_length_le (Nat.le_refl _), List.drop_of_length_le (by omega), List.take_nil]
def bit01 (h : List Int) : Prop := ∀ x ∈ h, x = 0 ∨ x = 1
def pow4 : List Int := [1, 2, 4, 8]
def spLaw (K : PySem.W.Frag) : Sp := fun vs H Q _ => ∃ (a : Addr) (ns : List Int), vs = [.ref a] ∧ SqL K H a (ns.map V.int) ∧ ns.length ≤ 63 ∧ ∀ H', Q (.bl true) H'
def long (gs : List U.Gate) (g : U.Gate) (m : Nat) : List U.Gate := (List.range m).map fun k => (gs ++ [g]).getD (k % (gs.length + 1)) g
theorem Paired.rep {α β : Type} {F : α → β → Prop} {x : α} {y : β} (h : F x y) : ∀ m : Nat, Paired F (List.replicate m x) (List.replicate m y)
  | 0 => .nil
  | m + 1 => by rw [List.replicate_succ, List.replicate_succ]; exact .cons h (Paired.rep h m)
theorem lt_draw {k : Int} (h0 : 0 ≤ k) (h1 : k ≤ 100000) (c : Int) : (-(2 ^ 64) < c % 2147483647 + 977 * k + 1 ∧ c % 2147483647 + 977 * k + 1 < 2 ^ 64) := by
  have a := Int.emod_nonneg c (b := 2147483647) (by decide)
  have b := Int.emod_lt_of_pos c (b := 2147483647) (by decide)
  constructor <;> omega
theorem kit_ll {K : PySem.W.Frag} : PySem.W.kitOne K (.type "list") (.type "list") = some true := by unfold PySem.W.kitOne; rw [if_pos (by decide)]
end UG
namespace UG
open PySem L2
section
variable {P : Program} {w : World} {K : PySem.W.Frag} {mg : Str → Option Value} {base : Heap} {aP : Addr}
theorem sc_is_wire : FnScope ["wires", "number"] ["wires", "number"] (defScope s_is_wire) := ⟨rfl, rfl, rfl, by decide +kernel, rfl, by decide +kernel, by decide +kernel⟩
theorem ok_is_wire (D : DefT K mg "is_wire" s_is_wire ["wires", "number"]) : FnP P w K mg base 1 "is_wire" ["wires", "number"] spWire := by
  refine D.ok sc_is_wire (fun vs H Q E h => ?_) (fun f cdv A outer s H vs Q E hr h => ?_)
  · obtain ⟨n, x, rfl, _⟩ := h
    rfl
  · obtain ⟨n, x, rfl, q⟩ := h
    refine ⟨_, pss_one (ps_ret (pe_chain op_le op_lt pe_int (pv 1) (pv 0))), ?_⟩
    refine ⟨_, rfl, _, _, rfl, rfl, _, rfl, ifB (fun h => ⟨_, rfl, _, _, rfl, rfl, ?_⟩) (fun h => ?_)⟩
    · show Q (V.bl (decide (x < n))) H
      have e : U.isWire n x = decide (x < n) := by unfold U.isWire; rw [h]; rfl
      rw [← e]
      exact q
    · show Q (V.bl false) H
      have e : U.isWire n x = false := by unfold U.isWire; rw [h]; rfl
      rw [← e]
      exact q
theorem sc_check_wires : FnScope ["wires"] ["wires"] (defScope s_check_wires) := ⟨rfl, rfl, rfl, by decide +kernel, rfl, by decide +kernel, by decide +kernel⟩
theorem ok_check_wires (T : TxtW mg) (D : DefT K mg "check_wires" s_check_wires ["wires"]) : FnP P w K mg base 1 "check_wires" ["wires"] spWires := by
  refine D.ok sc_check_wires (fun vs H Q E h => ?_) (fun f cdv A outer s H vs Q E hr h => ?_)
  · obtain ⟨n, rfl, _⟩ := h
    rfl
  · obtain ⟨n, rfl, h1, h4, q⟩ := h
    obtain ⟨t4, m4⟩ := T.mw
    refine ⟨_, pss_one (ps_if (pt_not (pt_chain op_le op_le pe_int (pv 0) (pe_glob (v := .int 4) rfl m4 ⟨_, rfl⟩))) pss_never pss_nil), ?_⟩
    refine ⟨_, rfl, _, _, rfl, rfl, _, rfl, ifT (decide_eq_true h1) ⟨_, _, rfl, rfl, _, rfl, ifF ?_ q⟩⟩
    rw [decide_eq_true h4]
    rfl
theorem sc_is_swap : FnScope ["wires", "one", "other"] ["wires", "one", "other"] (defScope s_is_swap) := ⟨rfl, rfl, rfl, by decide +kernel, rfl, by decide +kernel, by decide +kernel⟩
theorem ok_is_swap (G : FnP P w K mg base 1 "is_wire" ["wires", "number"] spWire) (D : DefT K mg "is_swap" s_is_swap ["wires", "one", "other"]) : FnP P w K mg base 2 "is_swap" ["wires", "one", "other"] spSwap := by
  refine D.ok sc_is_swap (fun vs H Q E h => ?_) (fun f cdv A outer s H vs Q E hr h => ?_)
  · obtain ⟨n, a, b, rfl, _⟩ := h
    rfl
  · obtain ⟨n, a, b, rfl, q⟩ := h
    refine ⟨_, pss_one (ps_ret (pe_and (pe_fn G hr rfl (pa_cons (pv 0) (pa_cons (pv 1) pa_nil))) (pe_and (pe_fn G hr rfl (pa_cons (pv 0) (pa_cons (pv 2) pa_nil))) (pe_one (pe_cmpR op_lt (pv 1) (pv 2) (nomark _)))))), ?_⟩
    refine ⟨_, rfl, _, rfl, _, _, rfl, _, rfl, ifB (fun h1 => ⟨_, rfl, _, rfl, _, _, rfl, _, rfl, ifB (fun h2 => ⟨_, rfl, _, rfl, _, _, rfl, rfl, ?_⟩) (fun h2 => ?_)⟩) (fun h1 => ?_)⟩
    · show Q (V.bl (decide (a < b))) H
      have e : U.isGate n (.swap a b) = decide (a < b) := by rw [U.isGate_swap, h1, h2]; rfl
      rw [← e]
      exact q
    · show Q (V.bl false) H
      have e : U.isGate n (.swap a b) = false := by rw [U.isGate_swap, h1, h2]; rfl
      rw [← e]
      exact q
    · show Q (V.bl false) H
      have e : U.isGate n (.swap a b) = false := by rw [U.isGate_swap, h1]; rfl
      rw [← e]
      exact q
theorem sc_is_rising : FnScope ["numbers"] ["numbers"] (defScope s_is_rising) := ⟨rfl, rfl, rfl, by decide +kernel, rfl, by decide +kernel, by decide +kernel⟩
theorem ok_is_rising (T : TxtB mg) (D : DefT K mg "is_rising" s_is_rising ["numbers"]) : FnP P w K mg base 1 "is_rising" ["numbers"] (spRising K) := by
  refine D.ok sc_is_rising (fun vs H Q E h => ?_) (fun f cdv A outer s H vs Q E hr h => ?_)
  · obtain ⟨t, ns, rfl, _⟩ := h
    rfl
  · obtain ⟨t, ns, rfl, hS, hz, q⟩ := h
    refine ⟨_, pss_one (ps_ret (pe_callB (call_all rfl) rfl T.all (by decide +kernel) (pa_cons (pe_comp (N' := ["one", "other"]) (cap := [none, none]) (show CapOk ["numbers"] _ _ (defScope s_is_rising) _ from by decide +kernel) rfl
      (pi_zip rfl T.zip (pa_cons (pv 0) (pa_cons (pe_slice sl_tup2 (pv 0) (po_some pe_int) po_none) pa_nil)))
      (fun _ _ _ _ _ _ => pg_tup rfl (pgs_cons (pg_name (i := 0) (show List.Nodup (["one", "other"] : List Str) from by decide +kernel) rfl (Or.inl rfl)) (pgs_cons (pg_name (i := 1) (show List.Nodup (["one", "other"] : List Str) from by decide +kernel) rfl (Or.inl rfl)) pgs_nil)))
      (fun _ _ _ _ _ _ => pif_nil) (fun _ _ _ _ _ _ => pe_cmpR op_lt (pv 0) (pv 1) (nomark _)) (gk_two rfl rfl)) pa_nil))), ?_⟩
    refine ⟨_, rfl, _, rfl, _, rfl, t, _, rfl, hS, fun p H1 hp sm => ⟨t, p, _, _, rfl, Same.tup sm hS, hp, ?_⟩⟩
    rw [cut1] at hp
    have hl : (List.zipWith (fun a b => decide (a < b)) ns (ns.drop 1)).length = ns.length - 1 := by rw [List.length_zipWith, List.length_drop]; omega
    refine ⟨ns.length - 1, fun i ys H' => Same H1 H' ∧ ys = ((List.zipWith (fun a b => decide (a < b)) ns (ns.drop 1)).take i).map V.bl, ?_, ⟨Same.refl _, rfl⟩, ?_, ?_⟩
    · exact len3 _ (by omega)
    · rintro i ys H' hi ⟨s1, rfl⟩
      have e1 : (ns.map V.int)[i]? = some (V.int (ns[i]'(by omega))) := by rw [List.getElem?_map, List.getElem?_eq_getElem (by omega)]; rfl
      have e2 : ((ns.drop 1).map V.int)[i]? = some (V.int (ns[i + 1]'(by omega))) := by rw [List.getElem?_map, List.getElem?_drop, Nat.add_comm, List.getElem?_eq_getElem (by omega)]; rfl
      refine ⟨⟨_, _, _, _, s1.tup (Same.tup sm hS), s1.tup hp, e1, e2⟩, ?_⟩
      rintro x H3 ⟨T', u, v, hT, rfl, rfl, q1, q2⟩
      have u1 := q1 _ (s1.tup (Same.tup sm hS))
      have v1 := q2 _ (s1.tup hp)
      rw [e1] at u1
      rw [e2] at v1
      cases u1
      cases v1
      refine ⟨T', _, rfl, SqT.of upd_same, rfl, _, _, rfl, _, _, rfl, rfl, _, rfl, _, rfl, _, _, rfl, rfl, s1.trans (Same.upd hT), ?_⟩
      rw [List.take_succ, List.getElem?_zipWith, List.getElem?_eq_getElem (by omega), List.getElem?_drop, Nat.add_comm 1 i, List.getElem?_eq_getElem (by omega), List.map_append]
      rfl
    · rintro ys H' ⟨s1, rfl⟩
      refine ⟨⟨_, _, s1.tup (Same.tup sm hS), s1.tup hp, ?_⟩, fun D hD => ⟨D, List.zipWith (fun a b => decide (a < b)) ns (ns.drop 1), rfl, ?_, ?_⟩⟩
      · right
        rw [List.length_map, List.length_drop]
        exact Nat.le_refl _
      · rw [List.take_of_length_le (by rw [hl]; exact Nat.le_refl _)]
        exact SqL.of upd_same
      · exact q _ ((Same.trans sm s1).trans (Same.upd hD))
end
end UG
namespace UG
open PySem L2
section
variable {P : Program} {w : World} {K : PySem.W.Frag} {mg : Str → Option Value} {base : Heap} {aP : Addr}
theorem sc_is_turn : FnScope ["wires", "wire", "watched"] ["wires", "wire", "watched"] (defScope s_is_turn) := ⟨rfl, rfl, rfl, by decide +kernel, rfl, by decide +kernel, by decide +kernel⟩
theorem ok_is_turn (T : TxtB mg) (Gw : FnP P w K mg base 1 "is_wire" ["wires", "number"] spWire) (Gr : FnP P w K mg base 1 "is_rising" ["numbers"] (spRising K)) (D : DefT K mg "is_turn" s_is_turn ["wires", "wire", "watched"]) :
    FnP P w K mg base 2 "is_turn" ["wires", "wire", "watched"] (spTurn K) := by
  refine D.ok sc_is_turn (fun vs H Q E h => ?_) (fun f cdv A outer s H vs Q E hr h => ?_)
  · obtain ⟨n, x, t, ws, rfl, _⟩ := h
    rfl
  · obtain ⟨n, x, t, ws, rfl, hS, hz, q⟩ := h
    refine ⟨_, pss_cons (ps_if (PW.pt (pw_or (pt_not (pt_val (pe_fn Gw hr rfl (pa_cons (pv 0) (pa_cons (pv 1) pa_nil))))) (pw_or1 (pt_cmpR op_in_seq (pv 1) (pv 2) (by with_unfolding_all rfl))))) (pss_one (ps_ret pe_bl)) pss_nil)
      (pss_one (ps_ret (pe_and (pe_fn Gr hr rfl (pa_cons (pv 2) pa_nil)) (pe_one (pe_callB (call_all rfl) rfl T.all (by decide +kernel) (pa_cons (pe_comp (N' := ["each", "wires"]) (cap := [none, some 0]) (show CapOk ["wires", "wire", "watched"] _ _ (defScope s_is_turn) _ from by decide +kernel) rfl
        (pi_tup (pv 2)) (fun _ _ _ _ _ _ => pg_name (i := 0) (show List.Nodup (["each", "wires"] : List Str) from by decide +kernel) rfl (Or.inl rfl)) (fun _ _ _ _ _ _ => pif_nil)
        (fun _ _ _ _ _ _ => pe_mid (pe_fn Gw hr rfl (pa_cons (pv 1) (pa_cons (pv 0) pa_nil)))) (gk_name rfl)) pa_nil)))))), ?_⟩
    refine ⟨_, rfl, _, rfl, _, _, rfl, _, rfl, ifB (fun h1 => ?_) (fun h1 => ?_)⟩
    · refine iteT ?_
      show Q (V.bl false) H
      have e : U.isGate n (.turn x ws) = false := by
        have h1' : U.isWire n x = false := by simpa using h1
        rw [U.isGate_turn, h1']
        rfl
      rw [← e]
      exact q H (Same.refl _)
    · have h1' : U.isWire n x = true := by simpa using h1
      refine ⟨_, rfl, _, rfl, t, _, rfl, .inr hS, rfl, flat_ints ws, _, rfl, ifB (fun h2 => ?_) (fun h2 => ?_)⟩
      · show Q (V.bl false) H
        have h2' : ws.contains x = true := (inV_ints x ws).symm.trans h2
        have e : U.isGate n (.turn x ws) = false := by
          rw [U.isGate_turn, h1', h2']
          rfl
        rw [← e]
        exact q H (Same.refl _)
      · have h2' : ws.contains x = false := (inV_ints x ws).symm.trans h2
        have e0 : U.isGate n (.turn x ws) = (U.rising ws && ws.all (U.isWire n)) := by
          rw [U.isGate_turn, h1', h2']
          rfl
        rw [e0] at q
        refine ⟨_, rfl, t, ws, rfl, hS, hz, fun H1 s1 => ⟨_, rfl, ifB (fun h3 => ?_) (fun h3 => ?_)⟩⟩
        · rw [h3] at q
          refine ⟨_, rfl, t, rfl, ⟨_, s1.tup hS⟩, ?_⟩
          refine L2.comp_map (over_tup (s1.tup hS)) (len3 _ (by rw [List.length_map]; omega)) (fun i y _ => y = V.bl (U.isWire n (ws.getD i 0))) (fun _ _ _ _ _ h => h) (fun i y H' e s2 => ?_) (fun ys H' s2 hl hF D hD => ?_)
          · obtain ⟨rfl, _⟩ := intAt e
            exact ⟨_, rfl, _, rfl, _, _, rfl, Same.refl _, rfl⟩
          · refine ⟨D, ws.map (U.isWire n), rfl, ?_, ?_⟩
            · rw [mapB_get hl hF]
              exact SqL.of upd_same
            · show Q (V.bl ((ws.map (U.isWire n)).all id)) _
              have e1 : (ws.map (U.isWire n)).all id = (true && ws.all (U.isWire n)) := by rw [List.all_map]; rfl
              rw [e1]
              exact q _ ((s1.trans s2).trans (Same.upd hD))
        · rw [h3] at q
          exact q _ s1
theorem sc_is_gate : FnScope ["wires", "gate"] ["wires", "gate"] (defScope s_is_gate) := ⟨rfl, rfl, rfl, by decide +kernel, rfl, by decide +kernel, by decide +kernel⟩
theorem ok_is_gate (Gt : FnP P w K mg base 2 "is_turn" ["wires", "wire", "watched"] (spTurn K)) (Gs : FnP P w K mg base 2 "is_swap" ["wires", "one", "other"] spSwap) (D : DefT K mg "is_gate" s_is_gate ["wires", "gate"]) :
    FnP P w K mg base 3 "is_gate" ["wires", "gate"] (spGate K) := by
  refine D.ok sc_is_gate (fun vs H Q E h => ?_) (fun f cdv A outer s H vs Q E hr h => ?_)
  · obtain ⟨n, v, g, rfl, _⟩ := h
    rfl
  · obtain ⟨n, v, g, rfl, ⟨a, rfl, hg⟩, q⟩ := h
    refine ⟨_, pss_cons (ps_if (pt_cmpR op_eq (pe_ix ix_tup (pv 1) pe_int (fun _ _ => rfl)) pe_str (nomark _)) (pss_one (ps_ret (pe_fn Gt hr rfl (pa_cons (pv 0) (pa_cons (pe_ix ix_tup (pv 1) pe_int (fun _ _ => rfl)) (pa_cons (pe_ix ix_tup (pv 1) pe_int (fun _ _ => rfl)) pa_nil)))))) pss_nil)
      (pss_one (ps_ret (pe_and (pe_cmpR op_eq (pe_ix ix_tup (pv 1) pe_int (fun _ _ => rfl)) pe_str (nomark _)) (pe_one (pe_fn Gs hr rfl (pa_cons (pv 0) (pa_cons (pe_ix ix_tup (pv 1) pe_int (fun _ _ => rfl)) (pa_cons (pe_ix ix_tup (pv 1) pe_int (fun _ _ => rfl)) pa_nil)))))))), ?_⟩
    cases g with
    | turn x ws =>
      obtain ⟨t, h1, h2, h3⟩ := hg
      exact ⟨_, rfl, a, _, _, _, rfl, rfl, h1, rfl, rfl, _, rfl, ifT tt ⟨_, rfl, _, rfl, a, _, _, _, rfl, rfl, h1, rfl, _, rfl, a, _, _, _, rfl, rfl, h1, rfl, n, x, t, ws, rfl, h2, h3, q⟩⟩
    | swap x y =>
      exact ⟨_, rfl, a, _, _, _, rfl, rfl, hg, rfl, rfl, _, rfl, ifF st ⟨_, rfl, a, _, _, _, rfl, rfl, hg, rfl, rfl, _, rfl, ifT ss ⟨_, rfl, _, rfl, a, _, _, _, rfl, rfl, hg, rfl, _, rfl, a, _, _, _, rfl, rfl, hg, rfl, n, x, y, rfl, q _ (Same.refl _)⟩⟩⟩
end
end UG
namespace UG
open PySem L2
def spCell (K : PySem.W.Frag) : Sp := fun vs H Q _ => ∃ (a : Addr) (ns : List Int) (k : Int), vs = [.ref a, .int k] ∧ SqL K H a (ns.map V.int) ∧ 0 ≤ k ∧ Q (.int (ns.getD k.toNat 0)) H
def spDraw : Sp := fun vs H Q _ => ∃ c k b : Int, vs = [.int c, .int k, .int b] ∧ 0 ≤ k ∧ k ≤ 100000 ∧ 0 < b ∧ Q (.int (U.draw c k b)) H
def spWhole : Sp := fun vs H Q _ => ∃ i, vs = [.int i] ∧ Q (.bl true) H
def spGateBy (K : PySem.W.Frag) : Sp := fun vs H Q _ => ∃ (c : Int) (n m : Nat), vs = [.int c, .int n, .int m] ∧ 1 ≤ n ∧ n ≤ 4 ∧ ∀ v H', Same H H' → GateAt K H' v (U.gateBy c n m) → Q v H'
def spRowBy (K : PySem.W.Frag) : Sp := fun vs H Q _ => ∃ (a : Addr) (ns : List Int) (f n m : Nat), vs = [.ref a, .int f, .int n, .int m] ∧ SqL K H a (ns.map V.int) ∧ f ≤ 1000 ∧ 1 ≤ n ∧ n ≤ 4 ∧
  ∀ r xs H', Same H H' → H r = none → H' r = some (.lst xs) → RowAt K H' xs (U.rowBy ns f n m) → Q (.ref r) H'
def spStep (K : PySem.W.Frag) : Sp := fun vs H Q _ => ∃ (n : Nat) (v : V) (g : U.Gate) (s : Int), vs = [.int n, v, .int s] ∧ GateAt K H v g ∧ 1 ≤ n ∧ n ≤ 4 ∧ U.isGate n g = true ∧ ∀ H', Same H H' → Q (.int (U.step n g s)) H'
def spLTable (K : PySem.W.Frag) : Sp := fun vs H Q _ => ∃ (n : Nat) (r : Addr) (xs : List V) (gs : List U.Gate), vs = [.int n, .ref r] ∧ 1 ≤ n ∧ n ≤ 4 ∧ RowOk K H n r xs gs ∧
  ∀ t H', Same H H' → H t = none → H' t = some (.lst ((U.table n gs).map V.int)) → Q (.ref t) H'
def spIs (K : PySem.W.Frag) : Sp := fun vs H Q _ => ∃ (a b : Addr) (ns ms : List Int), vs = [.ref a, .ref b] ∧ H a = some (.lst (ns.map V.int)) ∧ SqL K H b (ms.map V.int) ∧ Q (.bl (decide (ns = ms))) H
section
variable {P : Program} {w : World} {K : PySem.W.Frag} {mg : Str → Option Value} {base : Heap} {aP : Addr}
theorem sc_cell : FnScope ["script", "k"] ["script", "k"] (defScope s__law_cell_at) := ⟨rfl, rfl, rfl, by decide +kernel, rfl, by decide +kernel, by decide +kernel⟩
theorem ok_cell (T : TxtB mg) (D : DefT K mg "_law_cell_at" s__law_cell_at ["script", "k"]) : FnP P w K mg base 1 "_law_cell_at" ["script", "k"] (spCell K) := by
  refine D.ok sc_cell (fun vs H Q E h => ?_) (fun f cdv A outer s H vs Q E hr h => ?_)
  · obtain ⟨a, ns, k, rfl, _⟩ := h
    rfl
  · obtain ⟨a, ns, k, rfl, hS, h0, q⟩ := h
    refine ⟨_, pss_cons (ps_if (pt_cmpR op_lt (pv 1) (pe_callB call_len_seq rfl T.len PySem.boot_len (pa_cons (pv 0) pa_nil)) (nomark _)) (pss_one (ps_ret (pe_ix ix_list (pv 0) (pv 1) (fun _ _ => rfl)))) pss_nil) (pss_one (ps_ret pe_int)), ?_⟩
    refine ⟨_, rfl, _, rfl, a, _, rfl, .inl hS, _, _, rfl, rfl, _, rfl, ifB (fun h => ?_) (fun h => ?_)⟩
    · have h' := of_decide_eq_true h
      rw [List.length_map] at h'
      exact ⟨_, rfl, _, rfl, a, _, k, _, rfl, rfl, hS, atI_ints h0 h', q⟩
    · have h' := of_decide_eq_false h
      rw [List.length_map] at h'
      have e : ns.getD k.toNat 0 = 0 := by rw [List.getD_eq_getElem?_getD, List.getElem?_eq_none (by omega)]; rfl
      rw [e] at q
      exact q
theorem sc_draw : FnScope ["cell", "k", "bound", "stir"] ["cell", "k", "bound"] (defScope s__law_draw) := ⟨rfl, rfl, rfl, by decide +kernel, rfl, by decide +kernel, by decide +kernel⟩
theorem ok_draw (D : DefT K mg "_law_draw" s__law_draw ["cell", "k", "bound"]) : FnP P w K mg base 1 "_law_draw" ["cell", "k", "bound"] spDraw := by
  refine D.ok sc_draw (fun vs H Q E h => ?_) (fun f cdv A outer s H vs Q E hr h => ?_)
  · obtain ⟨c, k, b, rfl, _⟩ := h
    rfl
  · obtain ⟨c, k, b, rfl, h0, h1, hb, q⟩ := h
    refine ⟨_, pss_cons (ps_set (i := 3) sc_draw.nd rfl (Or.inl rfl) (pe_op op_mod (pe_op op_mul (pe_op op_add (pe_op op_add (pe_op op_mod (pv 0) pe_int) (pe_op op_mul pe_int (pv 1))) pe_int) pe_int) pe_int))
      (pss_cons (ps_set (i := 3) sc_draw.nd rfl (Or.inl rfl) (pe_op op_mod (pe_op op_mul (pv 3) (pv 3)) pe_int))
      (pss_cons (ps_set (i := 3) sc_draw.nd rfl (Or.inl rfl) (pe_op op_mod (pe_op op_mul (pe_op op_add (pv 3) (pe_op op_mul pe_int (pe_op op_add (pv 1) pe_int))) pe_int) pe_int))
      (pss_one (ps_ret (pe_op op_mod (pe_op op_fdiv (pv 3) pe_int) (pv 2)))))), ?_⟩
    refine ⟨_, rfl, _, _, rfl, rfl, (by show (0 : Int) < 2147483647; decide), _, rfl, _, _, rfl, rfl, .inl ⟨by decide, by decide⟩, _, _, rfl, rfl, _, _, rfl, rfl, _, _, rfl, rfl, .inl (lt_draw h0 h1 c), _, _, rfl, rfl, (by show (0 : Int) < 2147483647; decide), ?_⟩
    have p1 : ∀ x : Int, 0 ≤ x % 2147483647 ∧ x % 2147483647 < 2147483647 := fun x => ⟨Int.emod_nonneg _ (by decide), Int.emod_lt_of_pos _ (by decide)⟩
    have p2 : ∀ x : Int, 0 ≤ x % 2147483629 ∧ x % 2147483629 < 2147483629 := fun x => ⟨Int.emod_nonneg _ (by decide), Int.emod_lt_of_pos _ (by decide)⟩
    have m1 : ∀ x y : Int, CMul (x % 2147483647) y := fun x y => .inl (by have := p1 x; constructor <;> omega)
    have m2 : ∀ x y : Int, CMul (x % 2147483629 + 40692 * (k + 3)) y := fun x y => .inl (by have := p2 x; constructor <;> omega)
    refine ⟨_, rfl, _, rfl, _, _, rfl, rfl, m1 _ _, _, _, rfl, rfl, (by show (0 : Int) < 2147483629; decide), ?_⟩
    refine ⟨_, rfl, _, rfl, _, _, rfl, rfl, _, _, rfl, rfl, .inl ⟨by decide, by decide⟩, _, _, rfl, rfl, _, _, rfl, rfl, m2 _ _, _, _, rfl, rfl, (by show (0 : Int) < 2147483647; decide), ?_⟩
    exact ⟨_, rfl, _, _, rfl, rfl, ⟨by decide, by decide⟩, _, rfl, _, _, rfl, rfl, hb, q⟩
end
end UG
namespace UG
open PySem L2 PySem.SeqAt
theorem all_dec {α : Type} [DecidableEq α] {as bs : List α} (h : as.length = bs.length) : ((List.range as.length).all fun j => decide (as[j]? = bs[j]?)) = decide (as = bs) := by
  rw [Bool.eq_iff_iff, List.all_eq_true, decide_eq_true_eq]
  constructor
  · intro k
    apply List.ext_getElem?
    intro i
    by_cases hi : i < as.length
    · exact of_decide_eq_true (k i (List.mem_range.mpr hi))
    · rw [List.getElem?_eq_none (by omega), List.getElem?_eq_none (by omega)]
  · rintro rfl i _
    exact decide_eq_true rfl
section
variable {X : Cx} {pins : List (Addr × Obj)} {σ : St} {H : Hp} {s : Shared}
theorem Vals.at {xs : List V} {us : List Value} (r : Vals xs us) {j : Nat} (h : j < us.toArray.size) : ∃ x, xs[j]? = some x ∧ RelV x us.toArray[j] := by
  have hl := r.length
  rw [List.size_toArray] at h
  have hx : xs[j]? = some (xs[j]'(by omega)) := List.getElem?_eq_getElem (by omega)
  obtain ⟨u, h1, h2⟩ := r.get hx
  refine ⟨_, hx, ?_⟩
  have e : us[j]? = some us[j] := List.getElem?_eq_getElem h
  rw [e] at h1
  cases h1
  simpa using h2
theorem lists_at {α : Type} [DecidableEq α] {A : Around} {p q : Addr} {xs ys : List V} {as bs : List α} {R : V → α → Prop} (I : Inv X pins σ H s) (hu : A.units < cLine) (hx : SqL X.K H p xs) (hy : SqL X.K H q ys) (rx : Paired R xs as) (ry : Paired R ys bs)
    (he : ∀ x y a b u v, R x a → R y b → RelV x u → RelV y v → EqAt A.in1 s u v (decide (a = b))) : RcAt A s (.ref p) (.ref q) (decide (as = bs)) ∧ RcNeAt A s (.ref p) (.ref q) (!decide (as = bs)) := by
  obtain ⟨us, r1, p1, _⟩ := I.list hx
  obtain ⟨vs, r2, p2, _⟩ := I.list hy
  have l1 := r1.length
  have l2 := r2.length
  have m1 : xs.length = as.length := Paired.length rx
  have m2 : ys.length = bs.length := Paired.length ry
  by_cases hl : as.length = bs.length
  · have hsz : us.toArray.size = vs.toArray.size := by rw [List.size_toArray, List.size_toArray]; omega
    have key : ∀ j (h1 : j < us.toArray.size) (h2 : j < vs.toArray.size), EqAt A.in1 s us.toArray[j] vs.toArray[j] (decide (as[j]? = bs[j]?)) := fun j h1 h2 => by
      obtain ⟨x, ex, qx⟩ := Vals.at r1 h1
      obtain ⟨y, ey, qy⟩ := Vals.at r2 h2
      obtain ⟨a, ea, ra⟩ := Paired.get rx ex
      obtain ⟨b, eb, rb⟩ := Paired.get ry ey
      rw [ea, eb]
      have e : decide (some a = some b) = decide (a = b) := by
        by_cases z : a = b
        · rw [decide_eq_true z, decide_eq_true (by rw [z])]
        · rw [decide_eq_false z, decide_eq_false fun w => z (Option.some.inj w)]
      rw [e]
      exact he x y a b _ _ ra rb qx qy
    have h1 := RcAt.lists (e := fun j => decide (as[j]? = bs[j]?)) p1.isList p2.isList hsz hu key
    have h2 := RcNeAt.lists (e := fun j => decide (as[j]? = bs[j]?)) p1.isList p2.isList hsz hu key
    have e : us.toArray.size = as.length := by rw [List.size_toArray]; omega
    rw [e, all_dec hl] at h1 h2
    exact ⟨h1, h2⟩
  · have hsz : (us.toArray.size != vs.toArray.size) = true := by
      rw [List.size_toArray, List.size_toArray]
      simp only [bne_iff_ne, ne_eq]
      omega
    have e : decide (as = bs) = false := decide_eq_false fun z => hl (by rw [z])
    rw [e]
    exact ⟨RcAt.lists_lengths p1.isList p2.isList hsz hu, RcNeAt.lists_lengths p1.isList p2.isList hsz hu⟩
theorem pairI (ns : List Int) : Paired (fun x a => x = V.int a) (ns.map V.int) ns := by
  induction ns with
  | nil => exact .nil
  | cons n ns ih => exact .cons rfl ih
theorem int_at {A : Around} {x y : V} {a b : Int} {u v : Value} (h1 : x = V.int a) (h2 : y = V.int b) (r1 : RelV x u) (r2 : RelV y v) : EqAt A s u v (decide (a = b)) := by
  subst h1 h2
  obtain ⟨t, rfl⟩ := r1
  obtain ⟨t', rfl⟩ := r2
  have e : decide (a = b) = (a == b) := by rw [Bool.eq_iff_iff]; simp
  rw [e]
  exact EqAt.int_int a t b t'
def rEqI (K : PySem.W.Frag) : R2 := fun x y H Q => ∃ (p q : Addr) (ns ms : List Int), x = .ref p ∧ y = .ref q ∧ SqL K H p (ns.map V.int) ∧ SqL K H q (ms.map V.int) ∧ Q (.bl (decide (ns = ms))) H
theorem op_eqI (hu : X.A.units < cLine) : OpR X (compareOp .Eq) (rEqI X.K) := by
  intro pins s σ H x y v u Q I rx ry h
  obtain ⟨p, q, ns, ms, rfl, rfl, h1, h2, k⟩ := h
  cases rx
  cases ry
  exact (lists_at I hu h1 h2 (pairI ns) (pairI ms) fun x y a b u v z1 z2 z3 z4 => int_at z1 z2 z3 z4).1 _ _ _ _ ⟨.bl _, H, I, rfl, k⟩
def rNeI (K : PySem.W.Frag) : R2 := fun x y H Q => ∃ (p q : Addr) (ns ms : List Int), x = .ref p ∧ y = .ref q ∧ SqL K H p (ns.map V.int) ∧ SqL K H q (ms.map V.int) ∧ Q (.bl (!decide (ns = ms))) H
theorem tupI_at {A : Around} {p q : Addr} {ns ms : List Int} (I : Inv X pins σ H s) (hu : A.units < cLine) (hx : SqT X.K H p (ns.map V.int)) (hy : SqT X.K H q (ms.map V.int)) : EqAt A s (.ref p) (.ref q) (decide (ns = ms)) := by
  by_cases hpq : p = q
  · subst hpq
    have e := I.tuple_inj hx hy
    have e' : ns = ms := by
      have := congrArg (List.map fun v => match v with | V.int i => i | _ => 0) e
      simpa [List.map_map, Function.comp_def] using this
    subst e'
    rw [decide_eq_true rfl]
    exact EqAt.same _
  · refine EqAt.of_refs hpq ?_
    obtain ⟨us, r1, p1, _⟩ := I.tuple hx
    obtain ⟨vs, r2, p2, _⟩ := I.tuple hy
    have l1 := r1.length
    have l2 := r2.length
    rw [List.length_map] at l1 l2
    have h := RcAt.tuples (e := fun j => decide (ns[j]? = ms[j]?)) p1 p2 hu fun j h1 h2 => by
      obtain ⟨x, ex, qx⟩ := Vals.at r1 h1
      obtain ⟨y, ey, qy⟩ := Vals.at r2 h2
      obtain ⟨a, ea, ra⟩ := Paired.get (pairI ns) ex
      obtain ⟨b, eb, rb⟩ := Paired.get (pairI ms) ey
      rw [ea, eb]
      have e : decide (some a = some b) = decide (a = b) := by
        by_cases z : a = b
        · rw [decide_eq_true z, decide_eq_true (by rw [z])]
        · rw [decide_eq_false z, decide_eq_false fun w => z (Option.some.inj w)]
      rw [e]
      exact int_at ra rb qx qy
    have e : ((List.range (min us.toArray.size vs.toArray.size)).all (fun j => decide (ns[j]? = ms[j]?)) && us.toArray.size == vs.toArray.size) = decide (ns = ms) := by
      rw [List.size_toArray, List.size_toArray, ← l1, ← l2]
      by_cases hl : ns.length = ms.length
      · rw [← hl, Nat.min_self, all_dec hl]
        simp
      · have z : (ns.length == ms.length) = false := by simpa using hl
        rw [z, Bool.and_false, decide_eq_false fun w => hl (by rw [w])]
    rw [e] at h
    exact h
theorem gate_inj {a : Addr} {g g' : U.Gate} (I : Inv X pins σ H s) (h : GateAt X.K H (.ref a) g) (h' : GateAt X.K H (.ref a) g') : g = g' := by
  obtain ⟨b, e, h⟩ := h
  cases e
  obtain ⟨c, e, h'⟩ := h'
  cases e
  have ii : ∀ {ns ms : List Int}, ns.map V.int = ms.map V.int → ns = ms := fun {ns ms} e => by
    have := congrArg (List.map fun v => match v with | V.int i => i | _ => 0) e
    simpa [List.map_map, Function.comp_def] using this
  cases g with
  | turn x ws =>
    obtain ⟨t, h1, h2, _⟩ := h
    cases g' with
    | turn x' ws' =>
      obtain ⟨t', h1', h2', _⟩ := h'
      have e := I.tuple_inj h1 h1'
      simp only [List.cons.injEq, V.int.injEq, V.ref.injEq, and_true, true_and] at e
      obtain ⟨rfl, rfl⟩ := e
      rw [ii (I.tuple_inj h2 h2')]
    | swap y z =>
      have e := I.tuple_inj h1 h'
      simp only [List.cons.injEq, and_true, reduceCtorEq, and_false] at e
  | swap y z =>
    cases g' with
    | turn x' ws' =>
      obtain ⟨t', h1', h2', _⟩ := h'
      have e := I.tuple_inj h h1'
      simp only [List.cons.injEq, and_true, reduceCtorEq, and_false] at e
    | swap y' z' =>
      have e := I.tuple_inj h h'
      simp only [List.cons.injEq, V.int.injEq, and_true, true_and] at e
      rw [e.1, e.2]
theorem three {x y z : V} {us : List Value} (r : Vals [x, y, z] us) : ∃ a b c, us = [a, b, c] ∧ RelV x a ∧ RelV y b ∧ RelV z c := by
  cases r with
  | cons r1 r => cases r with
    | cons r2 r => cases r with
      | cons r3 r => cases r; exact ⟨_, _, _, rfl, r1, r2, r3⟩
theorem all3 (e : Nat → Bool) : ((List.range (min 3 3)).all e && (3 == 3)) = (e 0 && (e 1 && e 2)) := by
  show ((List.range 3).all e && true) = _
  rw [Bool.and_true]
  show (e 0 && (e 1 && (e 2 && true))) = _
  rw [Bool.and_true]
theorem gate_rc {A : Around} {a c : Addr} {g g' : U.Gate} (I : Inv X pins σ H s) (hu : A.units + 1 < cLine) (h : GateAt X.K H (.ref a) g) (h' : GateAt X.K H (.ref c) g') : RcAt A s (.ref a) (.ref c) (decide (g = g')) ∧ RcNeAt A s (.ref a) (.ref c) (!decide (g = g')) := by
  obtain ⟨b, e, h⟩ := h
  cases e
  obtain ⟨b', e, h'⟩ := h'
  cases e
  have hu0 : A.units < cLine := by omega
  have hu1 : A.in1.units < cLine := hu
  -- the three items of both, and how they compare
  have go : ∀ {x1 x2 x3 y1 y2 y3 : V} (e : Nat → Bool), SqT X.K H a [x1, x2, x3] → SqT X.K H c [y1, y2, y3] → (∀ u v, RelV x1 u → RelV y1 v → EqAt A.in1 s u v (e 0)) → (∀ u v, RelV x2 u → RelV y2 v → EqAt A.in1 s u v (e 1)) →
      (∀ u v, RelV x3 u → RelV y3 v → EqAt A.in1 s u v (e 2)) → RcAt A s (.ref a) (.ref c) (e 0 && (e 1 && e 2)) ∧ RcNeAt A s (.ref a) (.ref c) (!(e 0 && (e 1 && e 2))) := by
    intro x1 x2 x3 y1 y2 y3 e q1 q2 k0 k1 k2
    obtain ⟨us, r1, p1, _⟩ := I.tuple q1
    obtain ⟨vs, r2, p2, _⟩ := I.tuple q2
    obtain ⟨u1, u2, u3, rfl, w1, w2, w3⟩ := three r1
    obtain ⟨v1, v2, v3, rfl, z1, z2, z3⟩ := three r2
    have key : ∀ j (h1 : j < [u1, u2, u3].toArray.size) (h2 : j < [v1, v2, v3].toArray.size), EqAt A.in1 s [u1, u2, u3].toArray[j] [v1, v2, v3].toArray[j] (e j) := fun j h1 h2 => by
      match j, h1 with
      | 0, _ => exact k0 _ _ w1 z1
      | 1, _ => exact k1 _ _ w2 z2
      | 2, _ => exact k2 _ _ w3 z3
    have m1 := RcAt.tuples (e := e) p1 p2 hu0 key
    have m2 := RcNeAt.tuples (e := e) p1 p2 hu0 key
    have e3 : ((List.range (min [u1, u2, u3].toArray.size [v1, v2, v3].toArray.size)).all e && [u1, u2, u3].toArray.size == [v1, v2, v3].toArray.size) = (e 0 && (e 1 && e 2)) := all3 e
    rw [e3] at m1 m2
    exact ⟨m1, m2⟩
  have sI : ∀ {x y : Str} (b : Bool), (x == y) = b → ∀ u v, RelV (.str x) u → RelV (.str y) v → EqAt A.in1 s u v b := fun b hb u v r1 r2 => by
    obtain ⟨t, rfl⟩ := r1
    obtain ⟨t', rfl⟩ := r2
    rw [← hb]
    exact EqAt.str_str _ t _ t'
  have iI : ∀ {x y : Int}, ∀ u v, RelV (.int x) u → RelV (.int y) v → EqAt A.in1 s u v (decide (x = y)) := fun u v r1 r2 => int_at rfl rfl r1 r2
  cases g with
  | turn x ws =>
    obtain ⟨t, h1, h2, _⟩ := h
    cases g' with
    | turn x' ws' =>
      obtain ⟨t', h1', h2', _⟩ := h'
      have m := go (fun j => match j with | 0 => true | 1 => decide (x = x') | _ => decide (ws = ws')) h1 h1' (sI true (by decide +kernel)) iI fun u v r1 r2 => by
        cases r1
        cases r2
        exact tupI_at I hu1 h2 h2'
      have e : decide (U.Gate.turn x ws = U.Gate.turn x' ws') = (true && (decide (x = x') && decide (ws = ws'))) := by
        rw [Bool.eq_iff_iff]
        simp
      rw [e]
      exact m
    | swap y z =>
      have m := go (fun j => match j with | 0 => false | 1 => decide (x = y) | _ => false) h1 h' (sI false (by decide +kernel)) iI fun u v r1 r2 => by
        cases r1
        obtain ⟨t', rfl⟩ := r2
        obtain ⟨its, _, p, _⟩ := I.tuple h2
        exact EqAt.tuple_int z t' p hu1
      have e : decide (U.Gate.turn x ws = U.Gate.swap y z) = (false && (decide (x = y) && false)) := by simp
      rw [e]
      exact m
  | swap y z =>
    cases g' with
    | turn x' ws' =>
      obtain ⟨t', h1', h2', _⟩ := h'
      have m := go (fun j => match j with | 0 => false | 1 => decide (y = x') | _ => false) h h1' (sI false (by decide +kernel)) iI fun u v r1 r2 => by
        obtain ⟨t', rfl⟩ := r1
        cases r2
        obtain ⟨its, _, p, _⟩ := I.tuple h2'
        exact EqAt.int_tuple z t' p hu1
      have e : decide (U.Gate.swap y z = U.Gate.turn x' ws') = (false && (decide (y = x') && false)) := by simp
      rw [e]
      exact m
    | swap y' z' =>
      have m := go (fun j => match j with | 0 => true | 1 => decide (y = y') | _ => decide (z = z')) h h' (sI true (by decide +kernel)) iI iI
      have e : decide (U.Gate.swap y z = U.Gate.swap y' z') = (true && (decide (y = y') && decide (z = z'))) := by
        rw [Bool.eq_iff_iff]
        simp
      rw [e]
      exact m
theorem gate_at {A : Around} {x y : V} {g g' : U.Gate} {u v : Value} (I : Inv X pins σ H s) (hu : A.units + 1 < cLine) (h : GateAt X.K H x g) (h' : GateAt X.K H y g') (r1 : RelV x u) (r2 : RelV y v) : EqAt A s u v (decide (g = g')) := by
  obtain ⟨a, rfl, h0⟩ := id h
  obtain ⟨c, rfl, h0'⟩ := id h'
  cases r1
  cases r2
  by_cases hac : a = c
  · subst hac
    rw [decide_eq_true (gate_inj I h h')]
    exact EqAt.same _
  · exact EqAt.of_refs hac (gate_rc I hu h h').1
def rEqR (K : PySem.W.Frag) : R2 := fun x y H Q => ∃ p q xs ys gs hs, x = .ref p ∧ y = .ref q ∧ SqL K H p xs ∧ SqL K H q ys ∧ RowAt K H xs gs ∧ RowAt K H ys hs ∧ Q (.bl (decide (gs = hs))) H
theorem op_eqR (hu : X.A.units + 2 < cLine) : OpR X (compareOp .Eq) (rEqR X.K) := by
  intro pins s σ H x y v u Q I rx ry h
  obtain ⟨p, q, xs, ys, gs, hs, rfl, rfl, h1, h2, h3, h4, k⟩ := h
  cases rx
  cases ry
  exact (lists_at I (by omega) h1 h2 h3 h4 fun x y a b u v z1 z2 z3 z4 => gate_at I (by show X.A.units + 1 + 1 < cLine; omega) z1 z2 z3 z4).1 _ _ _ _ ⟨.bl _, H, I, rfl, k⟩
def rNeR (K : PySem.W.Frag) : R2 := fun x y H Q => ∃ p q xs ys gs hs, x = .ref p ∧ y = .ref q ∧ SqL K H p xs ∧ SqL K H q ys ∧ RowAt K H xs gs ∧ RowAt K H ys hs ∧ Q (.bl (!decide (gs = hs))) H
def rEqG (K : PySem.W.Frag) : R2 := fun x y H Q => ∃ g g', GateAt K H x g ∧ GateAt K H y g' ∧ Q (.bl (decide (g = g'))) H
end
end UG
namespace UG
open PySem L2 PyProof.Rows
abbrev S (l : List Nat) : Str := ⟨l.toArray⟩
theorem S_app (a b : List Nat) : S a ++ S b = S (a ++ b) := by
  show (⟨a.toArray ++ b.toArray⟩ : Str) = _
  rw [List.append_toArray]
theorem S_len (a : List Nat) : (S a).length = a.length := by show a.toArray.size = _; rw [List.size_toArray]
theorem S_of (z : Str) : S z.cps.toList = z := by cases z; rfl
theorem S_inj {a b : List Nat} (h : S a = S b) : a = b := by
  have := congrArg (fun z : Str => z.cps.toList) h
  exact this
theorem str_dig {x : Int} (h0 : 0 ≤ x) (h : x < 4) : (Str.ofString (toString x)) = S [U.dig x] := by
  have : x = 0 ∨ x = 1 ∨ x = 2 ∨ x = 3 := by omega
  rcases this with rfl | rfl | rfl | rfl <;> decide +kernel
theorem sjoin_S : ∀ ws : List (List Nat), Str.join (Str.ofString " ") (ws.map S) = S (U.joinL ws)
  | [] => rfl
  | [w] => rfl
  | w :: v :: r => by
    show S w ++ Str.ofString " " ++ Str.join (Str.ofString " ") ((v :: r).map S) = S (w ++ 32 :: U.joinL (v :: r))
    rw [sjoin_S (v :: r), show Str.ofString " " = S [32] from by decide +kernel, S_app, S_app]
    simp
theorem join_S (ws : List (List Nat)) : Txt.join (Str.ofString " ") (ws.map S) = S (U.joinL ws) := by
  unfold Txt.join
  rw [StrLaws.glued_eq_join, sjoin_S]
theorem sjoin0_S : ∀ ds : List Nat, Str.join (Str.ofString "") (ds.map fun d => S [d]) = S ds
  | [] => rfl
  | [d] => rfl
  | d :: e :: r => by
    show S [d] ++ Str.ofString "" ++ Str.join (Str.ofString "") ((e :: r).map fun d => S [d]) = S (d :: e :: r)
    rw [sjoin0_S (e :: r), show Str.ofString "" = S [] from by decide +kernel, S_app, S_app]
    rfl
theorem join0_S (ds : List Nat) : Txt.join (Str.ofString "") (ds.map fun d => S [d]) = S ds := by
  unfold Txt.join
  rw [StrLaws.glued_eq_join, sjoin0_S]
theorem split_ne (z y : Str) : Txt.split z y ≠ [] := by
  unfold Txt.split
  split
  · simp
  · split
    · simp
    · rw [StrLaws.partsBetween_eq]
      obtain ⟨p, r, e⟩ := StrLaws.partsFrom_ne z y.length 0 (Builtin.Str.occurrences z y 0 z.length (z.length + 1))
      rw [e]
      simp
theorem blank_S : Str.ofString " " = (⟨#[32]⟩ : Str) := by decide +kernel
theorem map_S (ps : List Str) : (ps.map fun z => z.cps.toList).map S = ps := by
  rw [List.map_map]
  conv => rhs; rw [← List.map_id ps]
  exact List.map_congr_left fun z _ => S_of z
theorem split_S {ws : List (List Nat)} (hne : ws ≠ []) (hb : ∀ w ∈ ws, 32 ∉ w) : Txt.split (S (U.joinL ws)) (Str.ofString " ") = ws.map S := by
  have e1 := StrLaws.join_split (S (U.joinL ws)) (Str.ofString " ")
  rw [← map_S (Txt.split (S (U.joinL ws)) (Str.ofString " ")), sjoin_S] at e1
  have e2 := S_inj e1
  have e3 := U.joinL_inj (by intro z; exact split_ne _ _ (List.map_eq_nil_iff.mp z)) hne (fun w hw => by
    obtain ⟨p, hp, rfl⟩ := List.mem_map.mp hw
    rw [blank_S] at hp
    exact StrLaws.split_free _ 32 p hp) hb e2
  have e4 := congrArg (List.map S) e3
  rw [map_S] at e4
  exact e4
theorem slice1 (z : Str) : Txt.slice z (some 1) none = S (z.cps.toList.drop 1) := by
  by_cases h : 1 ≤ z.cps.toList.length
  · have := StrLaws.sliceText_from (x := z) (i := 1) ⟨by decide, by omega⟩
    show StrLaws.sliceText z (some 1) none = _
    rw [this, List.take_of_length_le (by rw [List.length_drop]; omega)]
    rfl
  · have hz : z.cps.toList = [] := List.length_eq_zero_iff.mp (by omega)
    have hl := Txt.slice_le z (some 1) none
    have hzl : z.length = 0 := by show z.cps.size = 0; rw [← Array.length_toList, hz]; rfl
    rw [hz]
    have : (Txt.slice z (some 1) none).cps.toList = [] := List.length_eq_zero_iff.mp (by
      rw [Array.length_toList]
      show (Txt.slice z (some 1) none).length = 0
      omega)
    rw [← S_of (Txt.slice z (some 1) none), this]
    rfl
theorem starts (z : Str) (c : Nat) : Txt.startswith z ⟨#[c]⟩ = decide (z.cps.toList.head? = some c) := by
  obtain ⟨⟨l⟩⟩ := z
  cases l with
  | nil => rfl
  | cons d l =>
    unfold Txt.startswith Builtin.Str.subAt
    simp
    show (decide (1 ≤ l.length + 1) && List.take 1 (d :: l) == [c]) = decide (d = c)
    simp
    rw [Bool.eq_iff_iff, beq_iff_eq, decide_eq_true_eq]
theorem inKeys_fig (c : Nat) : KTD.inKeys (⟨#[c]⟩ : Str) figT = U.fig c := by
  have e : ∀ d : Nat, decide ((⟨#[c]⟩ : Str) = ⟨#[d]⟩) = decide (c = d) := fun d => by
    rw [Bool.eq_iff_iff, decide_eq_true_eq, decide_eq_true_eq]
    constructor
    · intro h
      have := S_inj (a := [c]) (b := [d]) h
      simpa using this
    · rintro rfl; rfl
  have e0 : Str.ofString "0" = (⟨#[48]⟩ : Str) := by decide +kernel
  have e1 : Str.ofString "1" = (⟨#[49]⟩ : Str) := by decide +kernel
  have e2 : Str.ofString "2" = (⟨#[50]⟩ : Str) := by decide +kernel
  have e3 : Str.ofString "3" = (⟨#[51]⟩ : Str) := by decide +kernel
  unfold figT figD U.fig
  simp only [List.map, KTD.inKeys, e0, e1, e2, e3, e]
  by_cases h0 : c = 48
  · subst h0; decide
  · by_cases h1 : c = 49
    · subst h1; decide
    · by_cases h2 : c = 50
      · subst h2; decide
      · by_cases h3 : c = 51
        · subst h3; decide
        · simp [h0, h1, h2, h3]
          omega
end UG
namespace UG
open PySem L2
def spShW (K : PySem.W.Frag) : Sp := fun vs H Q _ => ∃ (a : Addr) (ws : List Int), vs = [.ref a] ∧ (SqL K H a (ws.map V.int) ∨ SqT K H a (ws.map V.int)) ∧ ws.length ≤ 1000 ∧ (∀ x ∈ ws, 0 ≤ x ∧ x < 4) ∧ ∀ H', Same H H' → Q (.str (S (ws.map U.dig))) H'
def spShG (K : PySem.W.Frag) : Sp := fun vs H Q _ => ∃ (n : Nat) (v : V) (g : U.Gate), vs = [v] ∧ GateAt K H v g ∧ n ≤ 4 ∧ U.isGate n g = true ∧ ∀ H', Same H H' → Q (.str (S (U.showG g))) H'
def spShown (K : PySem.W.Frag) : Sp := fun vs H Q _ => ∃ (n : Nat) (r : Addr) (xs : List V) (gs : List U.Gate), vs = [.int n, .ref r] ∧ 1 ≤ n ∧ n ≤ 4 ∧ RowOk K H n r xs gs ∧ ∀ H', Same H H' → Q (.str (S (U.joinL (gs.map U.showG)))) H'
def asc (z : Str) : Prop := z.cps.all (· < 128) = true
def spGateOr (K : PySem.W.Frag) : Sp := fun vs H Q _ => ∃ z : Str, vs = [.str z] ∧ z.length ≤ 1000 ∧ asc z ∧ ∀ H', Same H H' → (U.parse z.cps.toList = none → Q .non H') ∧ ∀ g v, U.parse z.cps.toList = some g → GateAt K H' v g → Q v H'
def spReadG (K : PySem.W.Frag) : Sp := fun vs H Q _ => ∃ (n : Nat) (z : Str) (g : U.Gate), vs = [.int n, .str z] ∧ z.length ≤ 1000 ∧ asc z ∧ U.parse z.cps.toList = some g ∧ U.isGate n g = true ∧ ∀ v H', Same H H' → GateAt K H' v g → Q v H'
def wordsOf (z : Str) : List Str := if z = Str.ofString "" then [] else Txt.split z (Str.ofString " ")
def spRead (K : PySem.W.Frag) : Sp := fun vs H Q _ => ∃ (n : Nat) (z : Str) (gs : List U.Gate), vs = [.int n, .str z] ∧ 1 ≤ n ∧ n ≤ 4 ∧ z.length ≤ 10000 ∧ asc z ∧ (∀ w ∈ wordsOf z, w.length ≤ 1000 ∧ asc w) ∧ (wordsOf z).map (fun w => U.parse w.cps.toList) = gs.map some ∧ U.allG n gs ∧ gs.length ≤ 1000 ∧
  ∀ l xs H', Same H H' → H l = none → H' l = some (.lst xs) → RowAt K H' xs gs → Q (.ref l) H'
theorem mapS_get {f : Int → Str} {ns : List Int} {ys : List V} (hl : ys.length = (ns.map V.int).length) (h : ∀ (i : Nat) y, ys[i]? = some y → y = V.str (f (ns.getD i 0))) : ys = (ns.map f).map V.str := by
  rw [List.length_map] at hl
  apply List.ext_getElem?
  intro i
  by_cases hi : i < ns.length
  · have e : ys[i]? = some ys[i] := List.getElem?_eq_getElem (by omega)
    rw [e, h i _ e, List.map_map, List.getElem?_map, List.getElem?_eq_getElem hi, List.getD_eq_getElem?_getD, List.getElem?_eq_getElem hi]
    rfl
  · rw [List.getElem?_eq_none (by omega), List.getElem?_eq_none (by rw [List.length_map, List.length_map]; omega)]
theorem signs_S (r : List Nat) : signs (S r) = r.map fun c => V.str ⟨#[c]⟩ := rfl
theorem sign_at {r : List Nat} {i : Nat} {x : V} (h : (signs (S r))[i]? = some x) : i < r.length ∧ x = V.str ⟨#[r.getD i 0]⟩ := by
  rw [signs_S, List.getElem?_map] at h
  by_cases hi : i < r.length
  · rw [List.getElem?_eq_getElem hi] at h
    refine ⟨hi, ?_⟩
    rw [List.getD_eq_getElem?_getD, List.getElem?_eq_getElem hi]
    exact (Option.some.inj h).symm
  · rw [List.getElem?_eq_none (by omega)] at h
    cases h
theorem map_of {α : Type} {r : List Nat} {f : Nat → α} {c : α → V} {ys : List V} (hl : ys.length = (signs (S r)).length) (h : ∀ (i : Nat) y, ys[i]? = some y → y = c (f (r.getD i 0))) : ys = (r.map f).map c := by
  rw [signs_S, List.length_map] at hl
  apply List.ext_getElem?
  intro i
  by_cases hi : i < r.length
  · have e : ys[i]? = some ys[i] := List.getElem?_eq_getElem (by omega)
    rw [e, h i _ e, List.map_map, List.getElem?_map, List.getElem?_eq_getElem hi, List.getD_eq_getElem?_getD, List.getElem?_eq_getElem hi]
    rfl
  · rw [List.getElem?_eq_none (by omega), List.getElem?_eq_none (by rw [List.length_map, List.length_map]; omega)]
theorem sum_one : ∀ ds : List Nat, ((ds.map fun d => S [d]).map (·.length)).sum = ds.length
  | [] => rfl
  | d :: ds => by
    show 1 + ((ds.map fun d => S [d]).map (·.length)).sum = ds.length + 1
    rw [sum_one ds]
    omega
theorem asc_drop {z : Str} (h : asc z) (k : Nat) : asc (S (z.cps.toList.drop k)) := by
  unfold asc at *
  rw [Array.all_eq_true'] at *
  intro c hc
  refine h c ?_
  have : c ∈ z.cps.toList.drop k := by simpa using hc
  exact Array.mem_toList_iff.mp (List.mem_of_mem_drop this)
section
variable {P : Program} {w : World} {K : PySem.W.Frag} {mg : Str → Option Value} {base : Heap} {aP aF : Addr}
theorem sc_gate_or_none : FnScope ["word", "figures", "numbers"] ["word"] (defScope s_gate_or_none) := ⟨rfl, rfl, rfl, by decide +kernel, rfl, by decide +kernel, by decide +kernel⟩
theorem ok_gate_or_none (T : TxtB mg) (mF : mg "FIGURES" = some (.ref aF)) (hF : FigIn K aF) (D : DefT K mg "gate_or_none" s_gate_or_none ["word"]) : FnP P w K mg base 1 "gate_or_none" ["word"] (spGateOr K) := by
  refine D.ok sc_gate_or_none (fun vs H Q E h => ?_) (fun f cdv A outer s H vs Q E hr h => ?_)
  · obtain ⟨z, rfl, _⟩ := h
    rfl
  · obtain ⟨z, rfl, hz, ha, q⟩ := h
    have nd := sc_gate_or_none.nd
    refine ⟨_, pss_cons (ps_set (i := 1) nd rfl (Or.inl rfl) (pe_slice sl_str (pv 0) (po_some pe_int) po_none))
      (pss_cons (ps_if (pt_not (pt_val (pe_callB (call_all rfl) rfl T.all (by decide +kernel) (pa_cons (pe_comp (N' := ["sign"]) (cap := [none]) (show CapOk ["word", "figures", "numbers"] _ _ (defScope s_gate_or_none) _ from by decide +kernel) rfl
        (pi_str (pv 1)) (fun _ _ _ _ _ _ => pg_name (i := 0) (show List.Nodup (["sign"] : List Str) from by decide +kernel) rfl (Or.inl rfl)) (fun _ _ _ _ _ _ => pif_nil)
        (fun _ _ _ _ _ _ => pe_mid (pe_cmpR (op_inFig (a := aF) hF) (pv 0) (pe_glob (v := .ref aF) rfl mF rfl) (by with_unfolding_all rfl))) (gk_name rfl)) pa_nil)))) (pss_one (ps_ret pe_non)) pss_nil)
      (pss_cons (ps_setComp (N' := ["sign"]) (cap := [none]) (i := 2) nd rfl rfl (show CapOk ["word", "figures", "numbers"] _ _ (defScope s_gate_or_none) _ from by decide +kernel) rfl
        (pi_str (pv 1)) (fun _ _ _ _ _ _ => pg_name (i := 0) (show List.Nodup (["sign"] : List Str) from by decide +kernel) rfl (Or.inl rfl)) (fun _ _ _ _ _ _ => pif_nil)
        (fun _ _ _ _ _ _ => pe_mid (pe_ix (ix_fig (a := aF) hF) (pe_glob (v := .ref aF) rfl mF rfl) (pv 0) (fun _ _ => rfl))) (gk_name rfl))
      (pss_cons (ps_mid (ps_if (PW.pt (pw_and (pt_val (pe_bm PySem.F.plainAttrs_str PySem.F.slot_str_startswith PySem.F.type_str_startswith mt_startswith (pv 0) (pa_cons pe_str pa_nil))) (pw_and1 (pt_cmpR op_gt (pe_callB call_len_seq rfl T.len PySem.boot_len (pa_cons (pv 2) pa_nil)) pe_int (nomark _)))))
        (pss_one (ps_ret (pe_tup (pa_cons pe_str (pa_cons (pe_ix ix_list (pv 2) pe_int (fun _ _ => rfl)) (pa_cons (pe_callTy call_tuple_of rfl T.tuple (by decide +kernel) (pa_cons (pe_slice sl_list (pv 2) (po_some pe_int) po_none) pa_nil)) pa_nil)))))) pss_nil))
      (pss_cons (ps_if (PW.pt (pw_and (pt_val (pe_bm PySem.F.plainAttrs_str PySem.F.slot_str_startswith PySem.F.type_str_startswith mt_startswith (pv 0) (pa_cons pe_str pa_nil))) (pw_and1 (pt_cmpR op_eq (pe_callB call_len_seq rfl T.len PySem.boot_len (pa_cons (pv 2) pa_nil)) pe_int (nomark _)))))
        (pss_one (ps_ret (pe_tup (pa_cons pe_str (pa_cons (pe_ix ix_list (pv 2) pe_int (fun _ _ => rfl)) (pa_cons (pe_ix ix_list (pv 2) pe_int (fun _ _ => rfl)) pa_nil)))))) pss_nil)
      (pss_one (ps_ret pe_non)))))), ?_⟩
    have hzl : z.cps.toList.length ≤ 1000 := by rw [Array.length_toList]; exact hz
    refine ⟨_, rfl, _, rfl, z, rfl, Nat.le_trans hz (by decide), ?_⟩
    rw [slice1]
    have har := asc_drop ha 1
    generalize hr' : z.cps.toList.drop 1 = r at har
    have hrl : r.length ≤ 1000 := by rw [← hr', List.length_drop]; omega
    have hsl : (signs (S r)).length = r.length := by rw [signs_S, List.length_map]
    refine ⟨_, rfl, S r, rfl, har, ?_⟩
    refine L2.comp_map (over_str (z := S r)) (len3 _ (by omega)) (fun i y _ => y = V.bl (U.fig (r.getD i 0))) (fun _ _ _ _ _ h => h) (fun i x H' e s2 => ?_) (fun ys H1 s1 hyl hF1 D1 hD1 => ?_)
    · obtain ⟨hi, rfl⟩ := sign_at e
      refine ⟨_, rfl, _, rfl, rfl, Same.refl _, ?_⟩
      rw [inKeys_fig]
    have ey := map_of (f := U.fig) (c := V.bl) hyl hF1
    subst ey
    have s01 := s1.trans (Same.upd (o := .lst ((r.map U.fig).map V.bl)) hD1)
    refine ⟨D1, r.map U.fig, rfl, SqL.of upd_same, _, rfl, ?_⟩
    have ea : (r.map U.fig).all id = r.all U.fig := by rw [List.all_map]; rfl
    rw [ea]
    refine ifB (fun h => ?_) (fun h => ?_)
    · have hf : r.all U.fig = false := by simpa using h
      refine (q _ s01).1 ?_
      unfold U.parse
      rw [hr', hf]
      rfl
    have hf : r.all U.fig = true := by simpa using h
    have ep : U.parse z.cps.toList = U.gateOf z.cps.toList.head? (U.nums r) := by
      unfold U.parse
      rw [hr', if_pos hf]
    generalize upd H1 D1 (.lst ((r.map U.fig).map V.bl)) = H2 at s01
    refine ⟨_, rfl, S r, rfl, har, ?_⟩
    refine L2.comp_map (over_str (z := S r)) (len3 _ (by omega)) (fun i y _ => y = V.int ((r.getD i 0 : Int) - 48)) (fun _ _ _ _ _ h => h) (fun i x H' e s2 => ?_) (fun ys H3 s3 hyl hF3 D3 hD3 => ?_)
    · obtain ⟨hi, rfl⟩ := sign_at e
      have hc : U.fig (r.getD i 0) = true := by
        refine List.all_eq_true.mp hf _ ?_
        rw [List.getD_eq_getElem?_getD, List.getElem?_eq_getElem hi]
        exact List.getElem_mem hi
      unfold U.fig at hc
      simp only [Bool.and_eq_true, decide_eq_true_eq] at hc
      refine ⟨_, rfl, r.getD i 0 - 48, rfl, ?_, by omega, Same.refl _, ?_⟩
      · unfold figS
        rw [Nat.add_sub_cancel' hc.1]
      · congr 1
        omega
    have ey := map_of (f := fun (c : Nat) => (c : Int) - 48) (c := V.int) hyl hF3
    subst ey
    have en : (r.map fun (c : Nat) => (c : Int) - 48) = U.nums r := rfl
    rw [en]
    generalize U.nums r = ns at ep en
    have s03 := (s01.trans s3).trans (Same.upd (o := .lst (ns.map V.int)) hD3)
    have e3 : upd H3 D3 (.lst (ns.map V.int)) D3 = some (.lst (ns.map V.int)) := upd_same
    generalize upd H3 D3 (.lst (ns.map V.int)) = H4 at s03 e3
    have eT : Str.ofString "t" = (⟨#[116]⟩ : Str) := by decide +kernel
    have eS : Str.ofString "s" = (⟨#[115]⟩ : Str) := by decide +kernel
    refine ⟨fun σ' H' => σ' = [some (.str z), some (.str (S r)), some (.ref D3)] ∧ H' = H4 ∧ ¬ (z.cps.toList.head? = some 116 ∧ ns ≠ []), ?_, ?_⟩
    · refine ⟨_, rfl, rfl, z, _, rfl, rfl, _, rfl, ?_⟩
      rw [eT, starts]
      refine ifB (fun h1 => ?_) (fun h1 => iteF ⟨rfl, rfl, fun z => of_decide_eq_false h1 z.1⟩)
      refine ⟨_, rfl, D3, _, rfl, .inl (SqL.of e3), _, _, rfl, rfl, _, rfl, ?_⟩
      rw [List.length_map]
      refine ifB (fun h2 => ?_) (fun h2 => ⟨rfl, rfl, fun z => ?_⟩)
      · have hp : 0 < ns.length := by
          have := of_decide_eq_true h2
          omega
        have eg : U.gateOf z.cps.toList.head? ns = some (.turn (ns.getD 0 0) (ns.drop 1)) := by
          unfold U.gateOf
          rw [if_pos ⟨of_decide_eq_true h1, by intro z; rw [z] at hp; exact absurd hp (by decide)⟩]
        have ec : cutV (ns.map V.int) (some 1) none = (ns.drop 1).map V.int := by rw [show (1 : Int) = ((1 : Nat) : Int) from rfl, cutDrop, List.map_drop]
        have hnl : ns.length ≤ 1000 := by
          have := congrArg List.length en
          rw [List.length_map] at this
          omega
        refine ⟨_, rfl, D3, _, _, _, rfl, rfl, SqL.of e3, atI_ints (by decide) (by omega), _, rfl, _, rfl, D3, _, rfl, SqL.of e3, fun p hp2 => ⟨p, _, rfl, .inl ⟨SqL.of upd_same, fun l hl => ⟨len3 3, fun g hg => ?_⟩⟩⟩⟩
        rw [ec] at hl hg ⊢
        refine (q _ ((s03.trans (Same.upd hp2)).trans ((Same.upd hl).trans (Same.upd hg)))).2 _ _ (ep.trans eg) ⟨g, rfl, l, SqT.of upd_same, Same.tup (Same.upd hg) (SqT.of upd_same), by rw [List.length_drop]; omega⟩
      · have hn : ns.length = 0 := by
          have := of_decide_eq_false h2
          omega
        exact z.2 (List.length_eq_zero_iff.mp hn)
    rintro σ' H' ⟨rfl, rfl, hno⟩
    refine ⟨_, rfl, rfl, z, _, rfl, rfl, _, rfl, ?_⟩
    rw [eS, starts]
    refine ifB (fun h1 => ?_) (fun h1 => iteF ?_)
    · refine ⟨_, rfl, D3, _, rfl, .inl (SqL.of e3), rfl, _, rfl, ?_⟩
      rw [List.length_map, dI]
      refine ifB (fun h2 => ?_) (fun h2 => ?_)
      · have hp : ns.length = 2 := by
          have := of_decide_eq_true h2
          omega
        have eg : U.gateOf z.cps.toList.head? ns = some (.swap (ns.getD 0 0) (ns.getD 1 0)) := by
          unfold U.gateOf
          rw [if_neg hno, if_pos ⟨of_decide_eq_true h1, hp⟩]
        refine ⟨_, rfl, D3, _, _, _, rfl, rfl, SqL.of e3, atI_ints (by decide) (by omega), _, rfl, D3, _, _, _, rfl, rfl, SqL.of e3, atI_ints (by decide) (by omega), len3 3, fun g hg => ?_⟩
        exact (q _ (s03.trans (Same.upd hg))).2 _ _ (ep.trans eg) ⟨g, rfl, SqT.of upd_same⟩
      · refine (q _ s03).1 (ep.trans ?_)
        unfold U.gateOf
        rw [if_neg hno, if_neg fun z => of_decide_eq_false h2 (by have := z.2; omega)]
    · refine (q _ s03).1 (ep.trans ?_)
      unfold U.gateOf
      rw [if_neg hno, if_neg fun z => of_decide_eq_false h1 z.1]
theorem sc_read_gate : FnScope ["wires", "word", "gate"] ["wires", "word"] (defScope s_read_gate) := ⟨rfl, rfl, rfl, by decide +kernel, rfl, by decide +kernel, by decide +kernel⟩
theorem sc_read : FnScope ["wires", "text", "words"] ["wires", "text"] (defScope s_read) := ⟨rfl, rfl, rfl, by decide +kernel, rfl, by decide +kernel, by decide +kernel⟩
end
end UG
namespace UG
open PySem L2
def cAt (c0 c1 c2 c3 c4 c5 : Addr) : Nat → Addr
  | 0 => c0
  | 1 => c1
  | 2 => c2
  | 3 => c3
  | 4 => c4
  | _ => c5
def errOne (K : PySem.W.Frag) (cw C : Addr) : Prop := PySem.W.excIn K C veBase "ValueError.__new__" = true ∧ PySem.W.exmOne K (.ref C) (.ref cw) = some true ∧ PySem.W.kitOne K (.ref C) (.type "ValueError") = some true ∧ (PySem.W.clsIn K C).isSome = true ∧ ExcK K C
theorem exm_of {K : PySem.W.Frag} {cw C : Addr} (sw : PySem.W.subIn K (.ref cw) (.type "BaseException") = some true) (kw : PySem.W.kitOne K (.ref C) (.ref cw) = some true) (ne : C ≠ cw) : PySem.W.exmOne K (.ref C) (.ref cw) = some true := by
  unfold PySem.W.exmOne
  rw [if_pos (by rw [sw]; rfl)]
  unfold PySem.W.kitOne at kw
  rw [if_neg (fun z => ne (Value.ref.inj (beq_iff_eq.mp z)))] at kw
  exact kw
theorem errOne_mk {K : PySem.W.Frag} {cw C : Addr} {cd : ClassData} (gs : PySem.W.specialIn K (.builtin "object.__class__") "__get__" = some (some (.builtin "getset_descriptor.__get__"))) (tk : PySem.W.takesIn K (.builtin "object.__class__") = some true)
    (sw : PySem.W.subIn K (.ref cw) (.type "BaseException") = some true) (ex : PySem.W.excIn K C veBase "ValueError.__new__" = true) (kv : PySem.W.kitOne K (.ref C) (.type "ValueError") = some true) (kw : PySem.W.kitOne K (.ref C) (.ref cw) = some true) (ne : C ≠ cw) (cl : PySem.W.clsIn K C = some cd)
    (ga : PySem.W.findIn K (.ref C) "__getattribute__" = some (some (.builtin "BaseException.__getattribute__"))) (gt : PySem.W.findIn K (.ref C) "__getattr__" = some none) (ca : PySem.W.findIn K (.ref C) "__class__" = some (some (.builtin "object.__class__")))
    (mo : PySem.W.mroIn K C (.type "object") = some true) (mb : PySem.W.mroIn K C (.type "BaseException") = some true) : errOne K cw C := ⟨ex, exm_of sw kw ne, kv, by rw [cl]; rfl, ⟨ga, gt, ca, gs, tk, mo, mb⟩⟩
theorem row6 {p : Nat → Prop} (h0 : p 0) (h1 : p 1) (h2 : p 2) (h3 : p 3) (h4 : p 4) (h5 : p 5) : ∀ j, j < 6 → p j := fun j hj => by
  have : j = 0 ∨ j = 1 ∨ j = 2 ∨ j = 3 ∨ j = 4 ∨ j = 5 := by omega
  rcases this with rfl | rfl | rfl | rfl | rfl | rfl <;> assumption
structure ErrK (K : PySem.W.Frag) (mg : Str → Option Value) (cw : Addr) (c : Nat → Addr) : Prop where
  mw : mg "WireError" = some (.ref cw)
  m0 : mg "NoWires" = some (.ref (c 0))
  m1 : mg "NoGate" = some (.ref (c 1))
  m2 : mg "NoShuffle" = some (.ref (c 2))
  m3 : mg "NoTimes" = some (.ref (c 3))
  m4 : mg "Odd" = some (.ref (c 4))
  m5 : mg "NoNote" = some (.ref (c 5))
  ve : mg "ValueError" = none
  on : ∀ i, i < 6 → errOne K cw (c i)
  kt : ∀ i, i < 6 → ∀ j, j < 6 → PySem.W.kitOne K (.ref (c i)) (.ref (c j)) = some (decide (i = j))
section
variable {K : PySem.W.Frag} {mg : Str → Option Value} {cw : Addr} {c : Nat → Addr}
theorem ErrK.one (Z : ErrK K mg cw c) {i : Nat} (hi : i < 6) : errOne K cw (c i) ∧ ∀ j, j < 6 → PySem.W.kitOne K (.ref (c i)) (.ref (c j)) = some (decide (i = j)) := ⟨Z.on i hi, Z.kt i hi⟩
theorem ErrK.exc (Z : ErrK K mg cw c) {i : Nat} (hi : i < 6) : PySem.W.excIn K (c i) veBase "ValueError.__new__" = true := (Z.on i hi).1
theorem ErrK.exm (Z : ErrK K mg cw c) {i : Nat} (hi : i < 6) : PySem.W.exmOne K (.ref (c i)) (.ref cw) = some true := (Z.on i hi).2.1
def wordAt (i : Nat) : Str := (["wires", "gate", "shuffle", "times", "odd", "note"] : List Str).getD i "other"
def spWord (c : Nat → Addr) : Sp := fun vs H Q _ => ∃ (ea : Addr) (i : Nat), vs = [.ref ea] ∧ i < 6 ∧ H ea = some (excO ea (.ref (c i))) ∧ ∀ H', Same H H' → Q (.str (wordAt i)) H'
variable {P : Program} {w : World} {base : Heap}
theorem sc_word_of : FnScope ["e", "kinds"] ["e"] (defScope s__law_word_of) := ⟨rfl, rfl, rfl, by decide +kernel, rfl, by decide +kernel, by decide +kernel⟩
theorem ok_word_of (T : TxtB mg) (Z : ErrK K mg cw c) (D : DefT K mg "_law_word_of" s__law_word_of ["e"]) : FnH P w K mg base 1 "_law_word_of" ["e"] (spWord c) := by
  refine D.okH sc_word_of (fun vs H Q E h => ?_) (fun f cdv A outer s H vs Q E hr h => ?_)
  · obtain ⟨ea, i, rfl, _⟩ := h
    rfl
  · obtain ⟨ea, i, rfl, hi, he, q⟩ := h
    have nd := sc_word_of.nd
    obtain ⟨Z1, kt⟩ := Z.one hi
    obtain ⟨_, _, z3, z4, z5⟩ := Z1
    refine ⟨_, pss_cons (ps_set (i := 1) nd rfl (Or.inl rfl) (pe_lst (pa_cons (pe_callB (call_isinstX z5 z4) rfl T.isin (by decide +kernel) (pa_cons (pv 0) (pa_cons (pe_glob (v := .ref (c 0)) rfl Z.m0 rfl) pa_nil)))
        (pa_cons (pe_callB (call_isinstX z5 z4) rfl T.isin (by decide +kernel) (pa_cons (pv 0) (pa_cons (pe_glob (v := .ref (c 1)) rfl Z.m1 rfl) pa_nil)))
        (pa_cons (pe_callB (call_isinstX z5 z4) rfl T.isin (by decide +kernel) (pa_cons (pv 0) (pa_cons (pe_glob (v := .ref (c 2)) rfl Z.m2 rfl) pa_nil))) pa_nil)))))
      (pss_cons (ps_set (i := 1) nd rfl (Or.inl rfl) (pe_op op_cat (pv 1) (pe_lst (pa_cons (pe_callB (call_isinstX z5 z4) rfl T.isin (by decide +kernel) (pa_cons (pv 0) (pa_cons (pe_glob (v := .ref (c 3)) rfl Z.m3 rfl) pa_nil)))
        (pa_cons (pe_callB (call_isinstX z5 z4) rfl T.isin (by decide +kernel) (pa_cons (pv 0) (pa_cons (pe_glob (v := .ref (c 4)) rfl Z.m4 rfl) pa_nil)))
        (pa_cons (pe_callB (call_isinstX z5 z4) rfl T.isin (by decide +kernel) (pa_cons (pv 0) (pa_cons (pe_glob (v := .ref (c 5)) rfl Z.m5 rfl) pa_nil))) pa_nil))))))
      (pss_cons (ps_if (PW.pt (pw_or (pt_cmpR op_ne (pe_bmK (K := K) rfl PySem.F.plainAttrs_list PySem.F.slot_list_count PySem.F.type_list_count mt_countT (pv 1) (pa_cons pe_bl pa_nil)) pe_int (nomark _))
        (pw_or1 (pt_not (pt_val (pe_callB (call_isinstX z5 z4) rfl T.isin (by decide +kernel) (pa_cons (pv 0) (pa_cons (pe_bltn (v := .ty "ValueError") rfl Z.ve (by decide +kernel) rfl) pa_nil)))))))) (pss_one (ps_ret pe_str)) pss_nil)
      (pss_one (ps_ret (pe_ix ix_list (pe_lst (pa_cons pe_str (pa_cons pe_str (pa_cons pe_str (pa_cons pe_str (pa_cons pe_str (pa_cons pe_str pa_nil)))))))
        (pe_bmK (K := K) rfl PySem.F.plainAttrs_list PySem.F.slot_list_index PySem.F.type_list_index mt_indexT (pv 1) (pa_cons pe_bl pa_nil)) (fun _ _ => rfl)))))), ?_⟩
    refine ⟨_, rfl, ea, _, _, _, rfl, he, rfl, fun _ h => h, kt 0 (by decide), _, rfl, ea, _, _, _, rfl, he, rfl, fun _ h => h, kt 1 (by decide), _, rfl, ea, _, _, _, rfl, he, rfl, fun _ h => h, kt 2 (by decide), len3 3, fun l1 hl1 => ?_⟩
    have s1 := Same.upd (o := .lst [V.bl (decide (i = 0)), V.bl (decide (i = 1)), V.bl (decide (i = 2))]) hl1
    have he1 := s1 _ _ he
    refine ⟨_, rfl, _, rfl, ea, _, _, _, rfl, he1, rfl, fun _ h => h, kt 3 (by decide), _, rfl, ea, _, _, _, rfl, he1, rfl, fun _ h => h, kt 4 (by decide), _, rfl, ea, _, _, _, rfl, he1, rfl, fun _ h => h, kt 5 (by decide), len3 3, fun l2 hl2 => ?_⟩
    have s2 := Same.upd (o := .lst [V.bl (decide (i = 3)), V.bl (decide (i = 4)), V.bl (decide (i = 5))]) hl2
    refine ⟨l1, l2, _, _, rfl, rfl, s2 _ _ upd_same, upd_same, len3 6, fun l3 hl3 => ?_⟩
    have s3 := Same.upd (o := .lst ([V.bl (decide (i = 0)), V.bl (decide (i = 1)), V.bl (decide (i = 2))] ++ [V.bl (decide (i = 3)), V.bl (decide (i = 4)), V.bl (decide (i = 5))])) hl3
    have S := (s1.trans s2).trans s3
    have he3 := S _ _ he
    have e3 : upd (upd (upd H l1 (.lst [V.bl (decide (i = 0)), V.bl (decide (i = 1)), V.bl (decide (i = 2))])) l2 (.lst [V.bl (decide (i = 3)), V.bl (decide (i = 4)), V.bl (decide (i = 5))])) l3 (.lst ([V.bl (decide (i = 0)), V.bl (decide (i = 1)), V.bl (decide (i = 2))] ++ [V.bl (decide (i = 3)), V.bl (decide (i = 4)), V.bl (decide (i = 5))])) l3 =
      some (.lst ([decide (i = 0), decide (i = 1), decide (i = 2), decide (i = 3), decide (i = 4), decide (i = 5)].map V.bl)) := upd_same
    generalize upd (upd (upd H l1 (.lst [V.bl (decide (i = 0)), V.bl (decide (i = 1)), V.bl (decide (i = 2))])) l2 (.lst [V.bl (decide (i = 3)), V.bl (decide (i = 4)), V.bl (decide (i = 5))])) l3 (.lst ([V.bl (decide (i = 0)), V.bl (decide (i = 1)), V.bl (decide (i = 2))] ++ [V.bl (decide (i = 3)), V.bl (decide (i = 4)), V.bl (decide (i = 5))])) = H3 at S he3 e3
    have six : i = 0 ∨ i = 1 ∨ i = 2 ∨ i = 3 ∨ i = 4 ∨ i = 5 := by omega
    have hc : [decide (i = 0), decide (i = 1), decide (i = 2), decide (i = 3), decide (i = 4), decide (i = 5)].countP id = 1 := by rcases six with rfl | rfl | rfl | rfl | rfl | rfl <;> rfl
    have hx : [decide (i = 0), decide (i = 1), decide (i = 2), decide (i = 3), decide (i = 4), decide (i = 5)][i]? = some true := by rcases six with rfl | rfl | rfl | rfl | rfl | rfl <;> rfl
    have hn : ∀ m, m < i → [decide (i = 0), decide (i = 1), decide (i = 2), decide (i = 3), decide (i = 4), decide (i = 5)][m]? = some false := by rcases six with rfl | rfl | rfl | rfl | rfl | rfl <;> decide
    have ha : ∀ {x0 x1 x2 x3 x4 x5 : V}, atI [x0, x1, x2, x3, x4, x5] (i : Int) = some ([x0, x1, x2, x3, x4, x5].getD i x5) := by rcases six with rfl | rfl | rfl | rfl | rfl | rfl <;> exact rfl
    have hw : ([V.str "wires", V.str "gate", V.str "shuffle", V.str "times", V.str "odd", V.str "note"] : List V).getD i (V.str "note") = V.str (wordAt i) := by rcases six with rfl | rfl | rfl | rfl | rfl | rfl <;> rfl
    refine ⟨_, rfl, .inl ⟨rfl, _, SqL.of e3⟩, l3, _, rfl, rfl, e3, rfl, _, rfl, ifF (by rw [dI, hc]; rfl) ?_⟩
    refine ⟨_, rfl, ea, _, _, _, rfl, he3, rfl, fun _ h => h, z3, _, rfl, ifF rfl ?_⟩
    refine ⟨len3 6, fun l4 hl4 => ?_⟩
    have s4 := Same.upd (o := .lst [V.str "wires", V.str "gate", V.str "shuffle", V.str "times", V.str "odd", V.str "note"]) hl4
    refine ⟨_, rfl, .inl ⟨rfl, _, SqL.of (s4 _ _ e3)⟩, l3, _, i, rfl, rfl, s4 _ _ e3, hx, hn, l4, _, _, _, rfl, rfl, SqL.of upd_same, ha, ?_⟩
    rw [hw]
    exact q _ (S.trans s4)
end
end UG
namespace UG
open PySem L2 PyProof.Rows PySem.Builtin PySem.Builtin.Str
def okW (n : Int) : Bool := decide (1 ≤ n) && decide (n ≤ 4)
theorem okW_of {n : Int} (h : okW n = true) : ∃ m : Nat, n = (m : Int) ∧ 1 ≤ m ∧ m ≤ 4 := by
  unfold okW at h
  rw [Bool.and_eq_true, decide_eq_true_eq, decide_eq_true_eq] at h
  exact ⟨n.toNat, by omega, by omega, by omega⟩
def spWiresB (c : Nat → Addr) : Sp := fun vs H _ E => ∃ n : Int, vs = [.int n] ∧ okW n = false ∧ E (.ref (c 0)) none H
theorem slice_to {z : Str} {i : Nat} (h : i ≤ z.cps.toList.length) : Txt.slice z none (some (i : Int)) = S (z.cps.toList.take i) := by
  have := StrLaws.sliceText_to (x := z) (j := (i : Int)) ⟨by omega, by omega⟩
  show StrLaws.sliceText z none (some (i : Int)) = _
  rw [this]
  have e : ((i : Int) - 0).toNat = i := by omega
  rw [e]
  rfl
theorem slice_from (z : Str) (i : Nat) : Txt.slice z (some (i : Int)) none = S (z.cps.toList.drop i) := by
  have hl : z.cps.toList.length = z.length := by rw [Array.length_toList]; rfl
  by_cases h : i ≤ z.cps.toList.length
  · have := StrLaws.sliceText_from (x := z) (i := (i : Int)) ⟨by omega, by omega⟩
    show StrLaws.sliceText z (some (i : Int)) none = _
    rw [this]
    have e : ((i : Int)).toNat = i := by omega
    rw [e, List.take_of_length_le (by rw [List.length_drop]; omega)]
  · rw [slice_beyond (by omega), List.drop_of_length_le (by omega)]
    rfl
theorem slice_1 (z : Str) : Txt.slice z none (some 1) = S (z.cps.toList.take 1) := by
  by_cases h : 1 ≤ z.cps.toList.length
  · exact slice_to (i := 1) h
  · have hz : z.cps.toList = [] := List.length_eq_zero_iff.mp (by omega)
    have hl := Txt.slice_le z none (some 1)
    have hzl : z.length = 0 := by show z.cps.size = 0; rw [← Array.length_toList, hz]; rfl
    have : (Txt.slice z none (some 1)).cps.toList = [] := List.length_eq_zero_iff.mp (by
      rw [Array.length_toList]
      show (Txt.slice z none (some 1)).length = 0
      omega)
    rw [← S_of (Txt.slice z none (some 1)), this, hz]
    rfl
theorem head_is (l : List Nat) (c : Nat) : decide (V.str (S (l.take 1)) = V.str (S [c])) = decide (l.head? = some c) := by
  rw [Bool.eq_iff_iff, decide_eq_true_eq, decide_eq_true_eq]
  cases l with
  | nil =>
    constructor
    · intro h
      injection h with h
      have := S_inj h
      cases this
    · intro h; cases h
  | cons d l =>
    constructor
    · intro h
      injection h with h
      have := S_inj (a := [d]) h
      injection this with this _
      rw [this]
      rfl
    · intro h
      have : d = c := by simpa using h
      rw [this]
      rfl
theorem find_fig (c : Nat) : Txt.find (Str.ofString "0123") ⟨#[c]⟩ = if U.fig c = true then (c : Int) - 48 else -1 := by
  have es : Str.ofString "0123" = (⟨#[48, 49, 50, 51]⟩ : Str) := by decide +kernel
  rw [es]
  by_cases h0 : c = 48
  · subst h0; decide +kernel
  by_cases h1 : c = 49
  · subst h1; decide +kernel
  by_cases h2 : c = 50
  · subst h2; decide +kernel
  by_cases h3 : c = 51
  · subst h3; decide +kernel
  have hf : U.fig c = false := by
    unfold U.fig
    by_cases h : 48 ≤ c
    · rw [decide_eq_true h, Bool.true_and]
      exact decide_eq_false (by omega)
    · rw [decide_eq_false h]
      rfl
  rw [hf, if_neg (by decide)]
  unfold Txt.find
  have h := StrLaws.found_one (⟨#[48, 49, 50, 51]⟩ : Str) c
  rw [decide_eq_false (show ¬ c ∈ [48, 49, 50, 51] from by simp [h0, h1, h2, h3])] at h
  cases ho : occurrences (⟨#[48, 49, 50, 51]⟩ : Str) ⟨#[c]⟩ 0 (⟨#[48, 49, 50, 51]⟩ : Str).length 1 with
  | nil => rfl
  | cons a r => rw [ho] at h; cases h
theorem asc_mem {z : Str} : asc z ↔ ∀ c ∈ z.cps.toList, c < 128 := by
  unfold asc
  rw [Array.all_eq_true']
  constructor
  · intro h c hc
    have := h c (Array.mem_toList_iff.mp hc)
    simpa using this
  · intro h c hc
    exact decide_eq_true (h c (Array.mem_toList_iff.mpr hc))
theorem asc_S {l : List Nat} (h : ∀ c ∈ l, c < 128) : asc (S l) := asc_mem.mpr h
theorem words_of {z : Str} {w : Str} (h : w ∈ wordsOf z) : w.length ≤ z.length ∧ (asc z → asc w) := by
  unfold wordsOf at h
  split at h
  · cases h
  · have e1 := StrLaws.join_split z (Str.ofString " ")
    rw [← map_S (Txt.split z (Str.ofString " ")), sjoin_S] at e1
    have hm : w.cps.toList ∈ (Txt.split z (Str.ofString " ")).map (fun z => z.cps.toList) := List.mem_map.mpr ⟨w, h, rfl⟩
    generalize (Txt.split z (Str.ofString " ")).map (fun z => z.cps.toList) = ws at e1 hm
    refine ⟨?_, fun ha => ?_⟩
    · have := U.mem_len hm
      rw [← e1, S_len]
      rw [Array.length_toList] at this
      exact this
    · rw [asc_mem] at ha ⊢
      intro c hc
      refine ha c ?_
      rw [← e1]
      exact U.mem_joinL hm hc
def pw (n : Nat) (w : Str) : Option U.Gate := U.parseW n w.cps.toList
def goodT (n : Nat) (z : Str) (gs : List U.Gate) : Prop := (wordsOf z).length ≤ 1000 ∧ (wordsOf z).map (pw n) = gs.map some
def badT (n : Nat) (z : Str) : Prop := 1000 < (wordsOf z).length ∨ ∃ w ∈ wordsOf z, pw n w = none
theorem all_some {α β : Type} {f : α → Option β} : ∀ l : List α, (∃ x ∈ l, f x = none) ∨ ∃ r : List β, l.map f = r.map some
  | [] => .inr ⟨[], rfl⟩
  | x :: l => by
    cases h : f x with
    | none => exact .inl ⟨x, List.mem_cons_self, h⟩
    | some b =>
      rcases all_some (f := f) l with ⟨y, hy, e⟩ | ⟨r, e⟩
      · exact .inl ⟨y, List.mem_cons_of_mem _ hy, e⟩
      · exact .inr ⟨b :: r, by rw [List.map_cons, List.map_cons, h, e]⟩
theorem text_cases (n : Nat) (z : Str) : badT n z ∨ ∃ gs, goodT n z gs := by
  by_cases h : 1000 < (wordsOf z).length
  · exact .inl (.inl h)
  · rcases all_some (f := pw n) (wordsOf z) with h' | ⟨r, e⟩
    · exact .inl (.inr h')
    · exact .inr ⟨r, by omega, e⟩
theorem good_bad {n : Nat} {z : Str} {gs : List U.Gate} (h : goodT n z gs) (b : badT n z) : False := by
  rcases b with b | ⟨w, hw, e⟩
  · exact absurd h.1 (by omega)
  · have : none ∈ (wordsOf z).map (pw n) := List.mem_map.mpr ⟨w, hw, e⟩
    rw [h.2] at this
    obtain ⟨g, _, e⟩ := List.mem_map.mp this
    cases e
theorem good_at {n : Nat} {z : Str} {gs : List U.Gate} (h : goodT n z gs) {i : Nat} {w : Str} (e : (wordsOf z)[i]? = some w) : ∃ g, gs[i]? = some g ∧ pw n w = some g := by
  have e2 := congrArg (fun l => l[i]?) h.2
  simp only [List.getElem?_map, e, Option.map_some] at e2
  cases hg : gs[i]? with
  | none => rw [hg] at e2; cases e2
  | some g => rw [hg] at e2; exact ⟨g, rfl, Option.some.inj e2⟩
theorem good_len {n : Nat} {z : Str} {gs : List U.Gate} (h : goodT n z gs) : gs.length = (wordsOf z).length := by
  have := congrArg List.length h.2
  rw [List.length_map, List.length_map] at this
  exact this.symm
def spReadGX (K : PySem.W.Frag) (c : Nat → Addr) : Sp := fun vs H Q E => ∃ (n : Nat) (z : Str), vs = [.int n, .str z] ∧ z.length ≤ 1000 ∧ asc z ∧ (pw n z = none → ∀ H', Same H H' → E (.ref (c 5)) none H') ∧ ∀ g v H', pw n z = some g → Same H H' → GateAt K H' v g → Q v H'
def spReadX (K : PySem.W.Frag) (c : Nat → Addr) : Sp := fun vs H Q E => ∃ (n : Int) (z : Str), vs = [.int n, .str z] ∧ z.length ≤ 10000 ∧ asc z ∧ (∀ w ∈ wordsOf z, w.length ≤ 1000) ∧ (okW n = false → E (.ref (c 0)) none H) ∧
  ∀ m : Nat, n = (m : Int) → 1 ≤ m → m ≤ 4 → (badT m z → ∀ H', Same H H' → E (.ref (c 5)) none H') ∧ ∀ gs, goodT m z gs → ∀ l xs H', Same H H' → H l = none → H' l = some (.lst xs) → RowAt K H' xs gs → Q (.ref l) H'
section
variable {P : Program} {w : World} {K : PySem.W.Frag} {mg : Str → Option Value} {base : Heap} {aP cw : Addr} {c : Nat → Addr}
theorem bad_check_wires12 (T : TxtW mg) (Z : ErrK K mg cw c) (D : DefT K mg "check_wires" s_check_wires ["wires"]) : FnX P w K mg base 1 "check_wires" ["wires"] (spWiresB c) := by
  refine D.okX sc_check_wires (fun vs H Q E h => ?_) (fun f cdv A outer s H vs Q E hr h => ?_)
  · obtain ⟨n, rfl, _⟩ := h
    rfl
  · obtain ⟨n, rfl, hn, q⟩ := h
    obtain ⟨t4, m4⟩ := T.mw
    refine ⟨_, pss_one (ps_if (pt_not (pt_chain op_le op_le pe_int (pv 0) (pe_glob (v := .int 4) rfl m4 ⟨_, rfl⟩))) (pss_one (ps_raise ⟨Z.m0, Z.exc (by decide)⟩ rfl (pa_cons pe_str pa_nil))) pss_nil), ?_⟩
    have qr : ([V.str "there are 1 to 4 wires"] : List V).length ≤ 1000 ∧ E (.ref (c 0)) none H := ⟨by show 1 ≤ 1000; decide, q⟩
    refine ⟨_, rfl, _, _, rfl, rfl, _, rfl, ifB (fun h => ⟨_, _, rfl, rfl, _, rfl, ?_⟩) (fun h => ⟨false, rfl, ifT rfl qr⟩)⟩
    unfold okW at hn
    rw [h, Bool.true_and] at hn
    rw [hn]
    exact ifT rfl qr
theorem ok_read_gateX (Z : ErrK K mg cw c) (Go : FnP P w K mg base 1 "gate_or_none" ["word"] (spGateOr K)) (Gi : FnP P w K mg base 3 "is_gate" ["wires", "gate"] (spGate K)) (D : DefT K mg "read_gate" s_read_gate ["wires", "word"]) :
    FnX P w K mg base 4 "read_gate" ["wires", "word"] (spReadGX K c) := by
  refine D.okX sc_read_gate (fun vs H Q E h => ?_) (fun f cdv A outer s H vs Q E hr h => ?_)
  · obtain ⟨n, z, rfl, _⟩ := h
    rfl
  · obtain ⟨n, z, rfl, hz, ha, qb, q⟩ := h
    have nd := sc_read_gate.nd
    refine ⟨_, pss_cons (ps_set (i := 2) nd rfl (Or.inl rfl) (pe_fn Go (hr.mono (j := 1) (by decide)) rfl (pa_cons (pv 1) pa_nil)))
      (pss_cons (ps_if (PW.pt (pw_or (pt_cmpR op_isN (pv 2) pe_non (nomark _)) (pw_or1 (pt_not (pt_val (pe_fn Gi hr rfl (pa_cons (pv 0) (pa_cons (pv 2) pa_nil)))))))) (pss_one (ps_raise ⟨Z.m5, Z.exc (by decide)⟩ rfl (pa_cons pe_str pa_nil))) pss_nil)
      (pss_one (ps_ret (pv 2)))), ?_⟩
    refine ⟨_, rfl, z, rfl, hz, ha, fun H1 s1 => ⟨fun hp => ?_, fun g v hp gv => ?_⟩⟩
    · have hn : pw n z = none := by
        unfold pw U.parseW
        rw [hp]
        rfl
      exact ⟨_, rfl, rfl, _, rfl, ifT (decide_eq_true rfl) (iteT ⟨by show 1 ≤ 1000; decide, qb hn _ s1⟩)⟩
    · obtain ⟨a, rfl, _⟩ := id gv
      refine ⟨_, rfl, rfl, _, rfl, ifF (decide_eq_false fun z' => by cases z') ?_⟩
      refine ⟨_, rfl, _, rfl, n, _, g, rfl, gv, fun H2 s2 => ⟨_, rfl, ?_⟩⟩
      cases hg : U.isGate n g with
      | true => exact ifF rfl ⟨_, rfl, q g _ H2 (U.parseW_some.mpr ⟨hp, hg⟩) (s1.trans s2) (gv.mono s2)⟩
      | false =>
        refine ifT rfl ⟨by show 1 ≤ 1000; decide, qb ?_ _ (s1.trans s2)⟩
        unfold pw U.parseW
        rw [hp]
        show (if U.isGate n g = true then some g else none) = none
        rw [if_neg (by rw [hg]; decide)]
theorem ok_readX (T : TxtB mg) (mt : ∃ t, mg "MOST_GATES" = some (.int 1000 t)) (Z : ErrK K mg cw c) (Gw : FnX P w K mg base 1 "check_wires" ["wires"] fun vs H Q E => spWires vs H Q E ∨ spWiresB c vs H Q E) (Gr : FnX P w K mg base 4 "read_gate" ["wires", "word"] (spReadGX K c))
    (D : DefT K mg "read" s_read ["wires", "text"]) : FnX P w K mg base 5 "read" ["wires", "text"] (spReadX K c) := by
  refine D.okX sc_read (fun vs H Q E h => ?_) (fun f cdv A outer s H vs Q E hr h => ?_)
  · obtain ⟨n, z, rfl, _⟩ := h
    rfl
  · obtain ⟨n, z, rfl, hz, ha, hw, qw, qq⟩ := h
    have nd := sc_read.nd
    obtain ⟨tm, mm⟩ := mt
    refine ⟨_, pss_cons (ps_expr (pe_fnX Gw (hr.mono (j := 1) (by decide)) pass_self rfl (pa_cons (pv 0) pa_nil)))
      (pss_cons (ps_mid (ps_set (i := 2) nd rfl (Or.inl rfl) (pe_ifExp (pt_cmpR op_ne (pv 1) pe_str (nomark _)) (pe_bm PySem.F.plainAttrs_str PySem.F.slot_str_split PySem.F.type_str_split mt_split (pv 1) (pa_cons pe_str pa_nil)) (pe_lst pa_nil))))
      (pss_cons (ps_if (pt_cmpR op_gt (pe_callB call_len_seq rfl T.len PySem.boot_len (pa_cons (pv 2) pa_nil)) (pe_glob (v := .int 1000) rfl mm ⟨_, rfl⟩) (nomark _)) (pss_one (ps_raise ⟨Z.m5, Z.exc (by decide)⟩ rfl (pa_cons pe_str pa_nil))) pss_nil)
      (pss_one (ps_ret (pe_compX (N' := ["word", "wires"]) (cap := [none, some 0]) (show CapOk ["wires", "text", "words"] _ _ (defScope s_read) _ from by decide +kernel)
        (pi_list (pv 2)) (fun _ _ _ _ _ _ => pg_name (i := 0) (show List.Nodup (["word", "wires"] : List Str) from by decide +kernel) rfl (Or.inl rfl)) (fun _ _ _ _ _ _ => pif_nil)
        (fun _ _ _ _ _ _ => pe_mid (pe_fnX Gr hr pass_lies rfl (pa_cons (pv 1) (pa_cons (pv 0) pa_nil)))) (gk_name rfl)))))), ?_⟩
    cases hok : okW n with
    | false => exact ⟨_, rfl, .inr ⟨n, rfl, hok, qw hok⟩⟩
    | true =>
    obtain ⟨m, rfl, h1, h4⟩ := okW_of hok
    obtain ⟨qb, q⟩ := qq m rfl h1 h4
    refine ⟨_, rfl, .inl ⟨m, rfl, by omega, by omega, ?_⟩⟩
    refine ⟨fun σ' H' => ∃ l, σ' = [some (.int m), some (.str z), some (.ref l)] ∧ Same H H' ∧ H' l = some (.lst ((wordsOf z).map V.str)), ⟨_, rfl, rfl, _, rfl, ifB (fun h => ?_) (fun h => ?_)⟩, ?_⟩
    · have hne : ¬ z = Str.ofString "" := by
        intro e
        rw [e] at h
        exact absurd h (by decide)
      have ew : wordsOf z = Txt.split z (Str.ofString " ") := by unfold wordsOf; rw [if_neg hne]
      rw [ew]
      exact ⟨_, rfl, rfl, z, _, rfl, rfl, by decide +kernel, by omega, fun l hl => ⟨l, rfl, Same.upd hl, upd_same⟩⟩
    · have he : z = Str.ofString "" := by
        have h' : decide (V.str z = V.str (Str.ofString "")) = true := by simpa using h
        have := of_decide_eq_true h'
        injection this
      have ew : wordsOf z = [] := by unfold wordsOf; rw [if_pos he]
      rw [ew]
      exact ⟨len3 0, fun l hl => ⟨l, rfl, Same.upd hl, upd_same⟩⟩
    rintro σ' H1 ⟨l, rfl, s1, el⟩
    refine ⟨_, rfl, l, _, rfl, .inl (SqL.of el), _, _, rfl, rfl, _, rfl, ifB (fun h => ⟨by show 1 ≤ 1000; decide, qb (.inl ?_) _ s1⟩) (fun h => ?_)⟩
    · have := of_decide_eq_true h
      rw [List.length_map] at this
      omega
    have hlen : (wordsOf z).length ≤ 1000 := by
      have := of_decide_eq_false h
      rw [List.length_map] at this
      omega
    refine ⟨_, rfl, l, rfl, ⟨_, SqL.of el⟩, ?_⟩
    refine L2.comp_map (over_list (SqL.of el)) (len3 _ (by rw [List.length_map]; omega)) (fun i y H' => ∃ w g, (wordsOf z)[i]? = some w ∧ pw m w = some g ∧ GateAt K H' y g) (fun _ _ _ _ sm ⟨w, g, h1, h2, h3⟩ => ⟨w, g, h1, h2, h3.mono sm⟩) (fun i x H' e s2 => ?_) (fun ys H2 s2 hyl hF D hD => ?_)
    · rw [List.getElem?_map] at e
      cases hx : (wordsOf z)[i]? with
      | none => rw [hx] at e; cases e
      | some wd =>
        rw [hx] at e
        cases e
        have hm := List.mem_of_getElem? hx
        exact ⟨_, rfl, _, rfl, m, wd, rfl, hw _ hm, (words_of hm).2 ha, fun hn H3 s3 => qb (.inr ⟨wd, hm, hn⟩) _ ((s1.trans s2).trans s3), fun g v H3 hg s3 gv => ⟨s3, wd, g, rfl, hg, gv⟩⟩
    · rw [List.length_map] at hyl
      rcases text_cases m z with hb | ⟨gs, hg⟩
      · exfalso
        rcases hb with hb | ⟨wd, hm, hn⟩
        · omega
        · obtain ⟨i, hi⟩ := List.mem_iff_getElem?.mp hm
          have hlt : i < ys.length := by rw [hyl]; exact (List.getElem?_eq_some_iff.mp hi).1
          obtain ⟨w', g, e1, e2, _⟩ := hF i _ (List.getElem?_eq_getElem hlt)
          rw [hi] at e1
          cases e1
          rw [hn] at e2
          cases e2
      · refine q gs hg D ys _ ((s1.trans s2).trans (Same.upd hD)) ((s1.trans s2).free hD) upd_same (Paired.of (by rw [good_len hg]; omega) fun i x g e1 e2 => ?_)
        obtain ⟨w', g', h1, h2, h3⟩ := hF i x e1
        obtain ⟨g'', h4, h5⟩ := good_at hg h1
        rw [e2] at h4
        cases h4
        rw [h2] at h5
        cases h5
        exact h3.mono (Same.upd hD)
end
end UG
namespace UG
open PySem L2 PyProof.Rows PySem.Builtin PySem.Builtin.Str
def spLGate (K : PySem.W.Frag) : Sp := fun vs H Q _ => ∃ (n : Nat) (z : Str), vs = [.int n, .str z] ∧ n ≤ 4 ∧ z.length ≤ 1000 ∧ asc z ∧ ∀ H', Same H H' → (pw n z = none → Q .non H') ∧ ∀ g v, pw n z = some g → GateAt K H' v g → Q v H'
theorem nums_app (a b : List Nat) : U.nums (a ++ b) = U.nums a ++ U.nums b := by unfold U.nums; rw [List.map_append]
section
variable {P : Program} {w : World} {K : PySem.W.Frag} {mg : Str → Option Value} {base : Heap} {aP cw : Addr} {c : Nat → Addr}
theorem sc_lgate : FnScope ["wires", "word", "figures", "sign", "k"] ["wires", "word"] (defScope s__law_gate) := ⟨rfl, rfl, rfl, by decide +kernel, rfl, by decide +kernel, by decide +kernel⟩
theorem ok_lgate (T : TxtB mg) (D : DefT K mg "_law_gate" s__law_gate ["wires", "word"]) : FnP P w K mg base 1 "_law_gate" ["wires", "word"] (spLGate K) := by
  refine D.ok sc_lgate (fun vs H Q E h => ?_) (fun f cdv A outer s H vs Q E hr h => ?_)
  · obtain ⟨n, z, rfl, _⟩ := h
    rfl
  · obtain ⟨n, z, rfl, h4, hz, ha, q⟩ := h
    have nd := sc_lgate.nd
    have hu := hu_of hr
    have hu0 := Nat.lt_of_succ_lt hu
    refine ⟨_, pss_cons (ps_set (i := 2) nd rfl (Or.inl rfl) (pe_lst pa_nil))
      (pss_cons (ps_for PassesOwn.never rfl (pi_str (pe_slice sl_str (pv 1) (po_some pe_int) po_none)) (pg_name (i := 3) nd rfl (Or.inl rfl))
        (pss_cons (ps_if (PW.pt (pw_or (pt_cmpR op_lt (pe_bm PySem.F.plainAttrs_str PySem.F.slot_str_find PySem.F.type_str_find mt_find pe_str (pa_cons (pv 3) pa_nil)) pe_int (nomark _))
            (pw_or1 (pt_cmpR op_ge (pe_bm PySem.F.plainAttrs_str PySem.F.slot_str_find PySem.F.type_str_find mt_find pe_str (pa_cons (pv 3) pa_nil)) (pv 0) (nomark _))))) (pss_one (ps_ret pe_non)) pss_nil)
        (pss_one (ps_expr (pe_bm PySem.F.plainAttrs_list PySem.F.slot_list_append PySem.F.type_list_append mt_append (pv 2) (pa_cons (pe_bm PySem.F.plainAttrs_str PySem.F.slot_str_find PySem.F.type_str_find mt_find pe_str (pa_cons (pv 3) pa_nil)) pa_nil))))))
      (pss_cons (ps_if (pt_cmpR op_eq (pe_slice sl_str (pv 1) po_none (po_some pe_int)) pe_str (nomark _))
        (pss_cons (ps_if (PW.pt (pw_or (pt_cmpR op_ne (pe_callB call_len_seq rfl T.len PySem.boot_len (pa_cons (pv 2) pa_nil)) pe_int (nomark _)) (pw_or1 (pt_cmpR op_ge (pe_ix ix_list (pv 2) pe_int (fun _ _ => rfl)) (pe_ix ix_list (pv 2) pe_int (fun _ _ => rfl)) (nomark _))))) (pss_one (ps_ret pe_non)) pss_nil)
        (pss_one (ps_ret (pe_tup (pa_cons pe_str (pa_cons (pe_ix ix_list (pv 2) pe_int (fun _ _ => rfl)) (pa_cons (pe_ix ix_list (pv 2) pe_int (fun _ _ => rfl)) pa_nil))))))) pss_nil)
      (pss_cons (ps_if (PW.pt (pw_or (pt_cmpR op_ne (pe_slice sl_str (pv 1) po_none (po_some pe_int)) pe_str (nomark _)) (pw_or1 (pt_cmpR (op_eqI hu0) (pv 2) (pe_lst pa_nil) (nomark _))))) (pss_one (ps_ret pe_non)) pss_nil)
      (pss_cons (ps_for PassesOwn.never rfl (pi_range2 rfl T.range (pa_cons pe_int (pa_cons (pe_callB call_len_seq rfl T.len PySem.boot_len (pa_cons (pv 2) pa_nil)) pa_nil))) (pg_name (i := 4) nd rfl (Or.inl rfl))
        (pss_one (ps_if (PW.pt (pw_or (pt_cmpR op_eq (pe_ix ix_list (pv 2) (pv 4) (fun _ _ => rfl)) (pe_ix ix_list (pv 2) pe_int (fun _ _ => rfl)) (nomark _))
          (pw_or1 (PW.pt (pw_and (pt_cmpR op_gt (pv 4) pe_int (nomark _)) (pw_and1 (pt_cmpR op_le (pe_ix ix_list (pv 2) (pv 4) (fun _ _ => rfl)) (pe_ix ix_list (pv 2) (pe_op op_sub (pv 4) pe_int) (fun _ _ => rfl)) (nomark _)))))))) (pss_one (ps_ret pe_non)) pss_nil)))
      (pss_one (ps_ret (pe_tup (pa_cons pe_str (pa_cons (pe_ix ix_list (pv 2) pe_int (fun _ _ => rfl)) (pa_cons (pe_callTy call_tuple_of rfl T.tuple (by decide +kernel) (pa_cons (pe_slice sl_list (pv 2) (po_some pe_int) po_none) pa_nil)) pa_nil)))))))))), ?_⟩
    have hzl : z.cps.toList.length ≤ 1000 := by rw [Array.length_toList]; exact hz
    refine ⟨len3 0, fun l hl => ?_⟩
    refine ⟨_, rfl, _, rfl, z, rfl, Nat.le_trans hz (by decide), ?_⟩
    rw [slice1]
    have har := asc_drop ha 1
    generalize hr' : z.cps.toList.drop 1 = r at har
    have hrl : r.length ≤ 1000 := by rw [← hr', List.length_drop]; omega
    refine ⟨S r, rfl, har, ?_⟩
    refine for_str (z := S r) (fun i σ H2 => ∃ v3, σ = [some (.int n), some (.str z), some (.ref l), v3, none] ∧ Same H H2 ∧ H2 l = some (.lst ((U.nums (r.take i)).map V.int)) ∧ ∀ c ∈ r.take i, U.fig c = true ∧ (c : Int) - 48 < n)
      ⟨none, rfl, Same.upd hl, upd_same, fun c hc => by cases hc⟩ ?_ ?_
    · rintro i c σ H2 hc ⟨v3, rfl, s2, e2, hall⟩
      have hi : r[i]? = some c := by
        have : (S r).cps.toList[i]? = some c := by rw [Array.getElem?_toList]; exact hc
        exact this
      have hlt : i < r.length := (List.getElem?_eq_some_iff.mp hi).1
      have htk : r.take (i + 1) = r.take i ++ [c] := by rw [List.take_add_one, hi]; rfl
      have no : ¬ (U.fig c = true ∧ (c : Int) - 48 < n) → pw n z = none := fun hno => by
        cases hp : pw n z with
        | none => rfl
        | some g =>
          have := U.parseW_figs hp c (by rw [hr']; exact List.mem_of_getElem? hi)
          exact absurd this hno
      refine ⟨rfl, _, rfl, _, _, rfl, rfl, _, _, rfl, rfl, _, rfl, ?_⟩
      rw [find_fig]
      cases hf : U.fig c with
      | false => exact ifT (by rw [if_neg (by decide)]; decide) (iteT ((q _ s2).1 (no fun z => by rw [hf] at z; cases z.1)))
      | true =>
        have hf' := hf
        unfold U.fig at hf'
        simp only [Bool.and_eq_true, decide_eq_true_eq] at hf'
        rw [if_pos rfl]
        refine ifF (decide_eq_false (by omega)) ?_
        refine ⟨rfl, _, rfl, _, _, rfl, rfl, _, rfl, _, _, rfl, rfl, _, rfl, ?_⟩
        rw [find_fig, hf, if_pos rfl]
        refine ifB (fun h => (q _ s2).1 (no fun z => ?_)) (fun h => ?_)
        · have := of_decide_eq_true h
          omega
        have hn : (c : Int) - 48 < n := by
          have := of_decide_eq_false h
          omega
        refine ⟨_, rfl, .inl ⟨rfl, _, SqL.of e2⟩, rfl, _, rfl, _, _, rfl, rfl, l, _, _, rfl, rfl, e2, ?_, ?_⟩
        · rw [List.length_map, U.nums_len, List.length_take]
          exact Nat.lt_of_lt_of_le (show min i r.length < 2000 by omega) (by decide)
        rw [find_fig, hf, if_pos rfl]
        refine ⟨_, rfl, Same.updR s2 hl, ?_, fun c' hc' => ?_⟩
        · rw [upd_same, htk, nums_app, List.map_append]
          rfl
        · rw [htk] at hc'
          rcases List.mem_append.mp hc' with hc' | hc'
          · exact hall c' hc'
          · have : c' = c := by simpa using hc'
            rw [this]
            exact ⟨hf, hn⟩
    rintro σ H2 ⟨v3, rfl, s2, e2, hall⟩
    have esz : (S r).cps.size = r.length := S_len r
    rw [esz, List.take_length] at e2 hall
    have hfi : U.figsIn n z.cps.toList := by unfold U.figsIn; rw [hr']; exact hall
    have ep1 : pw n z = U.parseW n z.cps.toList := rfl
    have hnl : (U.nums r).length ≤ 1000 := by rw [U.nums_len]; exact hrl
    have eS : Str.ofString "s" = S [115] := by decide +kernel
    have eT : Str.ofString "t" = S [116] := by decide +kernel
    have psw : z.cps.toList.head? = some 115 → pw n z = if (U.nums r).length = 2 ∧ (U.nums r).getD 0 0 < (U.nums r).getD 1 0 then some (.swap ((U.nums r).getD 0 0) ((U.nums r).getD 1 0)) else none := fun h => by rw [ep1, U.pw_swap hfi h, hr']
    have ptu : z.cps.toList.head? = some 116 → U.nums r ≠ [] → pw n z = if U.turnOk (U.nums r) = true then some (.turn ((U.nums r).getD 0 0) ((U.nums r).drop 1)) else none := fun h hne => by rw [ep1, U.pw_turn hfi h (by rw [hr']; exact hne), hr']
    have pno : z.cps.toList.head? ≠ some 115 → (z.cps.toList.head? ≠ some 116 ∨ U.nums r = []) → pw n z = none := fun h1 h2 => by rw [ep1]; exact U.pw_none hfi h1 (by rw [hr']; exact h2)
    generalize U.nums r = ns at e2 hnl psw ptu pno
    refine ⟨_, rfl, _, rfl, z, rfl, Nat.le_trans hz (by decide), rfl, _, rfl, ?_⟩
    rw [slice_1, eS, head_is]
    refine ifB (fun hs => ?_) (fun hs => ?_)
    · have ep := psw (of_decide_eq_true hs)
      refine ⟨_, rfl, l, _, rfl, .inl (SqL.of e2), rfl, _, rfl, ?_⟩
      rw [List.length_map, dI]
      refine ifB (fun h => iteT ((q _ s2).1 ?_)) (fun h => ?_)
      · rw [ep, if_neg fun z' => ?_]
        have h' : ¬ (ns.length : Int) = 2 := by simpa using h
        exact h' (by omega)
      have h2 : ns.length = 2 := by
        have h' : (ns.length : Int) = 2 := by simpa using h
        omega
      refine ⟨_, rfl, l, _, _, _, rfl, rfl, SqL.of e2, atI_ints (by decide) (by omega), _, rfl, l, _, _, _, rfl, rfl, SqL.of e2, atI_ints (by decide) (by omega), _, _, rfl, rfl, _, rfl, ifB (fun h => (q _ s2).1 ?_) (fun h => ?_)⟩
      · rw [ep, if_neg fun z' => ?_]
        have h' : ns.getD 1 0 ≤ ns.getD 0 0 := of_decide_eq_true h
        exact absurd z'.2 (by omega)
      · have h' : ¬ ns.getD 1 0 ≤ ns.getD 0 0 := of_decide_eq_false h
        rw [if_pos ⟨h2, by omega⟩] at ep
        refine ⟨_, rfl, l, _, _, _, rfl, rfl, SqL.of e2, atI_ints (by decide) (by omega), _, rfl, l, _, _, _, rfl, rfl, SqL.of e2, atI_ints (by decide) (by omega), len3 3, fun g hg => ?_⟩
        exact (q _ (s2.trans (Same.upd hg))).2 _ _ ep ⟨g, rfl, SqT.of upd_same⟩
    have hs' : z.cps.toList.head? ≠ some 115 := of_decide_eq_false hs
    refine ⟨_, rfl, _, rfl, z, rfl, Nat.le_trans hz (by decide), rfl, _, rfl, ?_⟩
    rw [slice_1, eT, head_is]
    refine ifB (fun ht => iteT ((q _ s2).1 (pno hs' (.inl ?_)))) (fun ht => ?_)
    · simpa using ht
    have ht' : z.cps.toList.head? = some 116 := by simpa using ht
    refine ⟨_, rfl, len3 0, fun l2 hl2 => ?_⟩
    have s3 := s2.trans (Same.upd (o := .lst []) hl2)
    have e3 := Same.upd (o := .lst []) hl2 _ _ e2
    refine ⟨l, l2, ns, [], rfl, rfl, SqL.of e3, SqL.of upd_same, _, rfl, ifB (fun h => (q _ s3).1 (pno hs' (.inr (of_decide_eq_true h)))) (fun h => ?_)⟩
    generalize upd H2 l2 (.lst []) = H3 at s3 e3
    have hne : ns ≠ [] := of_decide_eq_false h
    have hpos : 0 < ns.length := List.length_pos_iff.mpr hne
    have ep := ptu ht' hne
    refine ⟨_, rfl, l, _, rfl, .inl (SqL.of e3), 1, _, rfl, ⟨by decide, by decide, by rw [List.length_map]; omega, by rw [List.length_map]; omega⟩, ?_⟩
    rw [List.length_map, show ((ns.length : Int) - 1).toNat = ns.length - 1 from by omega]
    refine for_range (lo := 1) (n := ns.length - 1) (fun i σ H4 => ∃ v4, σ = [some (.int n), some (.str z), some (.ref l), v3, v4] ∧ H4 = H3 ∧ ∀ j, j < i → ns.getD (j + 1) 0 ≠ ns.getD 0 0 ∧ (j = 0 ∨ ns.getD j 0 < ns.getD (j + 1) 0)) ⟨none, rfl, rfl, fun j hj => by cases hj⟩ ?_ ?_
    · rintro i σ H4 hi ⟨v4, rfl, rfl, hall4⟩
      have ek : (1 + (i : Int)).toNat = i + 1 := by omega
      have bad : ¬ (ns.getD (i + 1) 0 ≠ ns.getD 0 0 ∧ (i = 0 ∨ ns.getD i 0 < ns.getD (i + 1) 0)) → pw n z = none := fun hb => by
        rw [ep, if_neg fun z' => hb (U.turnOk_iff.mp z' i (by omega))]
      refine ⟨_, rfl, _, rfl, l, _, _, _, rfl, rfl, SqL.of e3, atI_ints (by omega) (by omega), _, rfl, l, _, _, _, rfl, rfl, SqL.of e3, atI_ints (by decide) (by omega), rfl, _, rfl, ?_⟩
      rw [dI, ek]
      refine ifB (fun h => iteT ((q _ s3).1 (bad fun z' => z'.1 (of_decide_eq_true h)))) (fun h => ?_)
      have h1 : ns.getD (i + 1) 0 ≠ ns.getD 0 0 := of_decide_eq_false h
      refine ⟨_, rfl, _, _, rfl, rfl, _, rfl, ifB (fun h => ?_) (fun h => ?_)⟩
      · have hi0 : 0 < i := by
          have := of_decide_eq_true h
          omega
        refine ⟨_, rfl, _, rfl, l, _, _, _, rfl, rfl, SqL.of e3, atI_ints (by omega) (by omega), _, rfl, _, rfl, _, _, rfl, rfl, l, _, _, _, rfl, rfl, SqL.of e3, atI_ints (by omega) (by omega), _, _, rfl, rfl, _, rfl, ?_⟩
        rw [ek, show ((1 + (i : Int)) - 1).toNat = i from by omega]
        refine ifB (fun h => (q _ s3).1 (bad fun z' => ?_)) (fun h => ?_)
        · have := of_decide_eq_true h
          rcases z'.2 with y | y
          · omega
          · omega
        · have h2 := of_decide_eq_false h
          refine ⟨_, rfl, rfl, fun j hj => ?_⟩
          by_cases hji : j = i
          · rw [hji]
            exact ⟨h1, .inr (by omega)⟩
          · exact hall4 j (by omega)
      · have hi0 : i = 0 := by
          have := of_decide_eq_false h
          omega
        refine iteF ⟨_, rfl, rfl, fun j hj => ?_⟩
        have : j = i := by omega
        rw [this]
        exact ⟨h1, .inl hi0⟩
    · rintro σ H4 ⟨v4, rfl, rfl, hall4⟩
      rw [if_pos (U.turnOk_iff.mpr fun j hj => hall4 j (by omega))] at ep
      have ec : cutV (ns.map V.int) (some 1) none = (ns.drop 1).map V.int := by rw [show (1 : Int) = ((1 : Nat) : Int) from rfl, cutDrop, List.map_drop]
      refine ⟨_, rfl, l, _, _, _, rfl, rfl, SqL.of e3, atI_ints (by decide) (by omega), _, rfl, _, rfl, l, _, rfl, SqL.of e3, fun p hp2 => ⟨p, _, rfl, .inl ⟨SqL.of upd_same, fun l3 hl3 => ⟨len3 3, fun g hg => ?_⟩⟩⟩⟩
      rw [ec] at hl3 hg ⊢
      refine (q _ ((s3.trans (Same.upd hp2)).trans ((Same.upd hl3).trans (Same.upd hg)))).2 _ _ ep ⟨g, rfl, l3, SqT.of upd_same, Same.tup (Same.upd hg) (SqT.of upd_same), by rw [List.length_drop]; omega⟩
end
end UG
namespace UG
open PySem L2 PyProof.Rows PySem.Builtin PySem.Builtin.Str
def textOk (z : Str) : Prop := z.length ≤ 10000 ∧ asc z ∧ ∀ w ∈ wordsOf z, w.length ≤ 1000
def spLRead (K : PySem.W.Frag) : Sp := fun vs H Q _ => ∃ (n : Nat) (z : Str), vs = [.int n, .str z] ∧ n ≤ 4 ∧ textOk z ∧ (badT n z → ∀ H', Same H H' → Q .non H') ∧ ∀ gs, goodT n z gs → ∀ l xs H', Same H H' → H l = none → H' l = some (.lst xs) → RowAt K H' xs gs → Q (.ref l) H'
def spTold12 (K : PySem.W.Frag) : Sp := fun vs H Q _ => ∃ (n : Int) (z : Str), vs = [.int n, .str z] ∧ textOk z ∧ (okW n = false → ∀ H', Same H H' → Q (.str (wordAt 0)) H') ∧
  ∀ m : Nat, n = (m : Int) → 1 ≤ m → m ≤ 4 → (badT m z → ∀ H', Same H H' → Q (.str (wordAt 5)) H') ∧ ∀ gs, goodT m z gs → ∀ l xs H', Same H H' → H l = none → H' l = some (.lst xs) → RowAt K H' xs gs → Q (.ref l) H'
theorem gate_tup {K : PySem.W.Frag} {H : Hp} {v : V} {g : U.Gate} (h : GateAt K H v g) : ∃ a zs, v = .ref a ∧ SqT K H a zs := by
  obtain ⟨a, e, h⟩ := h
  cases g with
  | turn x ws => obtain ⟨t, h1, _⟩ := h; exact ⟨a, _, e, h1⟩
  | swap x y => exact ⟨a, _, e, h⟩
section
variable {P : Program} {w : World} {K : PySem.W.Frag} {mg : Str → Option Value} {base : Heap} {aP cw : Addr} {c : Nat → Addr}
theorem sc_lread : FnScope ["wires", "text", "row"] ["wires", "text"] (defScope s__law_read) := ⟨rfl, rfl, rfl, by decide +kernel, rfl, by decide +kernel, by decide +kernel⟩
theorem ok_lread (T : TxtB mg) (Gg : FnP P w K mg base 1 "_law_gate" ["wires", "word"] (spLGate K)) (D : DefT K mg "_law_read" s__law_read ["wires", "text"]) : FnP P w K mg base 2 "_law_read" ["wires", "text"] (spLRead K) := by
  refine D.ok sc_lread (fun vs H Q E h => ?_) (fun f cdv A outer s H vs Q E hr h => ?_)
  · obtain ⟨n, z, rfl, _⟩ := h
    rfl
  · obtain ⟨n, z, rfl, h4, ⟨hz, ha, hw⟩, qb, q⟩ := h
    have nd := sc_lread.nd
    have hu1 := Nat.lt_of_le_of_lt (Nat.add_le_add_left (by decide : 1 ≤ 64) _) hr.units
    refine ⟨_, pss_cons (ps_if (pt_cmpR op_eq (pv 1) pe_str (nomark _)) (pss_one (ps_ret (pe_lst pa_nil))) pss_nil)
      (pss_cons (ps_setComp (N' := ["word", "wires"]) (cap := [none, some 0]) (i := 2) nd rfl rfl (show CapOk ["wires", "text", "row"] _ _ (defScope s__law_read) _ from by decide +kernel) rfl
        (pi_list (pe_bm PySem.F.plainAttrs_str PySem.F.slot_str_split PySem.F.type_str_split mt_split (pv 1) (pa_cons pe_str pa_nil))) (fun _ _ _ _ _ _ => pg_name (i := 0) (show List.Nodup (["word", "wires"] : List Str) from by decide +kernel) rfl (Or.inl rfl)) (fun _ _ _ _ _ _ => pif_nil)
        (fun _ _ _ _ _ _ => pe_mid (pe_fn Gg hr rfl (pa_cons (pv 1) (pa_cons (pv 0) pa_nil)))) (gk_name rfl))
      (pss_cons (ps_if (PW.pt (pw_or (pt_cmpR (op_inNon hu1) pe_non (pv 2) (by with_unfolding_all rfl)) (pw_or1 (pt_cmpR op_gt (pe_callB call_len_seq rfl T.len PySem.boot_len (pa_cons (pv 2) pa_nil)) pe_int (nomark _))))) (pss_one (ps_ret pe_non)) pss_nil)
      (pss_one (ps_ret (pv 2))))), ?_⟩
    refine ⟨_, rfl, rfl, _, rfl, ifB (fun h => ?_) (fun h => ?_)⟩
    · have he : z = Str.ofString "" := by
        have := of_decide_eq_true h
        injection this
      have ew : wordsOf z = [] := by unfold wordsOf; rw [if_pos he]
      exact ⟨len3 0, fun l hl => q [] ⟨by rw [ew]; decide, by rw [ew]; rfl⟩ l [] _ (Same.upd hl) hl upd_same .nil⟩
    have hne : ¬ z = Str.ofString "" := fun e => of_decide_eq_false h (by rw [e])
    have ew : wordsOf z = Txt.split z (Str.ofString " ") := by unfold wordsOf; rw [if_neg hne]
    have hlw := split_len z (Str.ofString " ")
    rw [← ew] at hlw
    refine ⟨_, rfl, rfl, z, _, rfl, rfl, by decide +kernel, by omega, fun l hl => ?_⟩
    rw [← ew]
    have s1 := Same.upd (o := .lst ((wordsOf z).map V.str)) hl
    have el : upd H l (.lst ((wordsOf z).map V.str)) l = some (.lst ((wordsOf z).map V.str)) := upd_same
    generalize upd H l (.lst ((wordsOf z).map V.str)) = H1 at s1 el
    refine ⟨l, rfl, ⟨_, SqL.of el⟩, ?_⟩
    refine L2.comp_map (over_list (SqL.of el)) (len3 _ (by rw [List.length_map]; omega)) (fun i y H' => ∃ w, (wordsOf z)[i]? = some w ∧ (pw n w = none ∧ y = .non ∨ ∃ g, pw n w = some g ∧ GateAt K H' y g))
      (fun _ _ _ _ sm ⟨w, h1, h2⟩ => ⟨w, h1, h2.imp id fun ⟨g, h3, h4⟩ => ⟨g, h3, h4.mono sm⟩⟩) (fun i x H' e s2 => ?_) (fun ys H2 s2 hyl hF D hD => ?_)
    · rw [List.getElem?_map] at e
      cases hx : (wordsOf z)[i]? with
      | none => rw [hx] at e; cases e
      | some wd =>
        rw [hx] at e
        cases e
        have hm := List.mem_of_getElem? hx
        exact ⟨_, rfl, _, rfl, n, wd, rfl, h4, hw _ hm, (words_of hm).2 ha, fun H3 s3 => ⟨fun hn => ⟨s3, wd, rfl, .inl ⟨hn, rfl⟩⟩, fun g v hg gv => ⟨s3, wd, rfl, .inr ⟨g, hg, gv⟩⟩⟩⟩
    rw [List.length_map] at hyl
    have S := (s1.trans s2).trans (Same.upd (o := .lst ys) hD)
    have hF' : ∀ i y, ys[i]? = some y → ∃ w, (wordsOf z)[i]? = some w ∧ (pw n w = none ∧ y = .non ∨ ∃ g, pw n w = some g ∧ GateAt K (upd H2 D (.lst ys)) y g) := fun i y e => by
      obtain ⟨w, h1, h2⟩ := hF i y e
      exact ⟨w, h1, h2.imp id fun ⟨g, h3, h4⟩ => ⟨g, h3, h4.mono (Same.upd hD)⟩⟩
    have eD : upd H2 D (.lst ys) D = some (.lst ys) := upd_same
    have fD := (s1.trans s2).free hD
    generalize upd H2 D (.lst ys) = H3 at S hF' eD
    refine ⟨_, rfl, D, ys, rfl, rfl, SqL.of eD, fun v hv => ?_, _, rfl, ifB (fun h => iteT (qb (.inr ?_) _ S)) (fun h => ?_)⟩
    · obtain ⟨i, hi⟩ := List.mem_iff_getElem?.mp hv
      obtain ⟨w', _, h2⟩ := hF' i v hi
      rcases h2 with ⟨_, e⟩ | ⟨g, _, gv⟩
      · exact .inl e
      · exact .inr (gate_tup gv)
    · obtain ⟨v, hv, e⟩ := List.any_eq_true.mp h
      have e' : v = .non := of_decide_eq_true e
      obtain ⟨i, hi⟩ := List.mem_iff_getElem?.mp hv
      obtain ⟨w', h1, h2⟩ := hF' i v hi
      refine ⟨w', List.mem_of_getElem? h1, ?_⟩
      rcases h2 with ⟨hn, _⟩ | ⟨g, _, gv⟩
      · exact hn
      · obtain ⟨a, _, ea, _⟩ := gate_tup gv
        rw [e'] at ea
        cases ea
    refine ⟨_, rfl, D, _, rfl, .inl (SqL.of eD), _, _, rfl, rfl, _, rfl, ifB (fun h2 => qb (.inl ?_) _ S) (fun h2 => ?_)⟩
    · have := of_decide_eq_true h2
      omega
    have hlen : (wordsOf z).length ≤ 1000 := by
      have := of_decide_eq_false h2
      omega
    refine ⟨_, rfl, ?_⟩
    rcases text_cases n z with hb | ⟨gs, hg⟩
    · exfalso
      rcases hb with hb | ⟨wd, hm, hn⟩
      · omega
      · obtain ⟨i, hi⟩ := List.mem_iff_getElem?.mp hm
        have hlt : i < ys.length := by rw [hyl]; exact (List.getElem?_eq_some_iff.mp hi).1
        obtain ⟨w', e1, e2⟩ := hF' i _ (List.getElem?_eq_getElem hlt)
        rw [hi] at e1
        cases e1
        rcases e2 with ⟨_, e2⟩ | ⟨g, e2, _⟩
        · have : (ys.any fun v => decide (v = V.non)) = true := List.any_eq_true.mpr ⟨_, List.getElem_mem hlt, decide_eq_true e2⟩
          rw [this] at h
          cases h
        · rw [hn] at e2
          cases e2
    · refine q gs hg D ys _ S fD eD (Paired.of (by rw [good_len hg]; omega) fun i x g e1 e2 => ?_)
      obtain ⟨w', h1, h2⟩ := hF' i x e1
      obtain ⟨g'', h5, h6⟩ := good_at hg h1
      rw [e2] at h5
      cases h5
      rcases h2 with ⟨hn, _⟩ | ⟨g', h2, h3⟩
      · rw [hn] at h6
        cases h6
      · rw [h2] at h6
        cases h6
        exact h3
theorem sc_told12 : FnScope ["wires", "text", "e"] ["wires", "text"] (defScope s__law_told) := ⟨rfl, rfl, rfl, by decide +kernel, rfl, by decide +kernel, by decide +kernel⟩
theorem ok_told12 (Z : ErrK K mg cw c) (Gr : FnX P w K mg base 5 "read" ["wires", "text"] (spReadX K c)) (Gw : FnH P w K mg base 1 "_law_word_of" ["e"] (spWord c)) (D : DefT K mg "_law_told" s__law_told ["wires", "text"]) :
    FnP P w K mg base 6 "_law_told" ["wires", "text"] (spTold12 K) := by
  refine D.ok sc_told12 (fun vs H Q E h => ?_) (fun f cdv A outer s H vs Q E hr h => ?_)
  · obtain ⟨n, z, rfl, _⟩ := h
    rfl
  · obtain ⟨n, z, rfl, ⟨hz, ha, hw⟩, q0, qq⟩ := h
    have nd := sc_told12.nd
    refine ⟨_, pss_one (ps_tryAs (i := 2) (E := fun cls _ H' => Same H H' ∧ ((cls = .ref (c 0) ∧ okW n = false) ∨ (cls = .ref (c 5) ∧ ∃ m : Nat, n = (m : Int) ∧ 1 ≤ m ∧ m ≤ 4 ∧ badT m z))) rfl rfl rfl nd rfl rfl rfl Z.mw (fun cls d H' h => ?_)
      (fun pins => pss_one (ps_ret (pe_fnX Gr hr pass_lies rfl (pa_cons (pv 0) (pa_cons (pv 1) pa_nil)))))
      (fun pins ea => pss_one (ps_ret (pe_fnH Gw ((hr.mono (j := 1) (by decide)).mark _) rfl (pa_cons (pv 2) pa_nil)))) rfl), ?_⟩
    · rcases h.2 with ⟨e, _⟩ | ⟨e, _⟩
      · rw [e]; exact Z.exm (by decide)
      · rw [e]; exact Z.exm (by decide)
    refine ⟨⟨_, rfl, _, rfl, n, z, rfl, hz, ha, hw, fun hb => ⟨Same.refl _, .inl ⟨rfl, hb⟩⟩, fun m em h1 h4 => ⟨fun hb H' s' => ⟨s', .inr ⟨rfl, m, em, h1, h4, hb⟩⟩, fun gs hg l xs H' s' fl el R => (qq m em h1 h4).2 gs hg l xs H' s' fl el R⟩⟩, ?_⟩
    rintro cls σ' H' ea hl ⟨s', hc⟩ hn
    rcases hc with ⟨rfl, hb⟩ | ⟨rfl, m, em, h1, h4, hb⟩
    · exact ⟨.ref ea, List.getElem?_set_self (by rw [hl]; show 2 < 3; decide), ea, 0, rfl, by decide, upd_same, fun H'' s'' => q0 hb H'' ((s'.trans (Same.upd hn)).trans s'')⟩
    · exact ⟨.ref ea, List.getElem?_set_self (by rw [hl]; show 2 < 3; decide), ea, 5, rfl, by decide, upd_same, fun H'' s'' => (qq m em h1 h4).1 hb H'' ((s'.trans (Same.upd hn)).trans s'')⟩
end
end UG
namespace UG
open PySem L2 PyProof.Rows PySem.Builtin PySem.Builtin.Str
def figs4 (fs : List Int) : Prop := ∀ x ∈ fs, 0 ≤ x ∧ x < 4
def spWordBy (K : PySem.W.Frag) : Sp := fun vs H Q _ => ∃ (a : Addr) (ns : List Int) (k n : Nat), vs = [.ref a, .int k, .int n] ∧ SqL K H a (ns.map V.int) ∧ 1 ≤ n ∧ n ≤ 4 ∧ ∀ (l : List Nat) H', l.length ≤ 10 → (∀ c ∈ l, c < 128) → Same H H' → Q (.str (S l)) H'
theorem dig_lt {x : Int} (h0 : 0 ≤ x) (h : x < 4) : U.dig x < 128 := by unfold U.dig; omega
theorem emod4 {x n : Int} (h1 : 1 ≤ n) (h4 : n ≤ 4) : 0 ≤ x % n ∧ x % n < 4 := ⟨Int.emod_nonneg _ (by omega), Int.lt_of_lt_of_le (Int.emod_lt_of_pos _ (by omega)) h4⟩
theorem join_figs {K : PySem.W.Frag} {H : Hp} {fs : List Int} {ys : List V} {D : Addr} (hl : ys.length = (fs.map V.int).length) (hz : fs.length ≤ 10) (hF : ∀ (i : Nat) y, ys[i]? = some y → y = V.str (S [U.dig (fs.getD i 0)])) :
    SqL K (upd H D (.lst ys)) D (((fs.map U.dig).map fun d => S [d]).map V.str) ∧ ((((fs.map U.dig).map fun d => S [d]).map (·.length)).sum + ((fs.map U.dig).map fun d => S [d]).length * 64 ≤ 16777216) := by
  have ey := mapS_get (f := fun x => S [U.dig x]) hl hF
  have e2 : fs.map (fun x => S [U.dig x]) = (fs.map U.dig).map fun d => S [d] := by rw [List.map_map]; rfl
  refine ⟨?_, ?_⟩
  · rw [ey, e2]
    exact SqL.of upd_same
  · simp only [sum_one, List.length_map]
    omega
theorem lst5 {i : Int} (h0 : 0 ≤ i) (h : i < 5) : ∃ l : List Nat, atI [V.str "t", V.str "t", V.str "s", V.str "t", V.str ""] i = some (V.str (S l)) ∧ l.length ≤ 1 ∧ ∀ c ∈ l, c < 128 := by
  have : i = 0 ∨ i = 1 ∨ i = 2 ∨ i = 3 ∨ i = 4 := by omega
  rcases this with rfl | rfl | rfl | rfl | rfl
  · exact ⟨[116], by decide +kernel, by decide, by decide⟩
  · exact ⟨[116], by decide +kernel, by decide, by decide⟩
  · exact ⟨[115], by decide +kernel, by decide, by decide⟩
  · exact ⟨[116], by decide +kernel, by decide, by decide⟩
  · exact ⟨[], by decide +kernel, by decide, by decide⟩
theorem ints_of {p : Int → Prop} : ∀ {ys : List V}, (∀ (i : Nat) y, ys[i]? = some y → ∃ x : Int, y = V.int x ∧ p x) → ∃ fs : List Int, ys = fs.map V.int ∧ ∀ x ∈ fs, p x
  | [], _ => ⟨[], rfl, fun x hx => by cases hx⟩
  | y :: ys, h => by
    obtain ⟨x, rfl, hx⟩ := h 0 y rfl
    obtain ⟨fs, rfl, hf⟩ := ints_of (ys := ys) fun i y e => h (i + 1) y e
    refine ⟨x :: fs, rfl, fun z hz => ?_⟩
    rcases List.mem_cons.mp hz with rfl | hz
    · exact hx
    · exact hf z hz
theorem str_figs {fs : List Int} (hf : figs4 fs) {i : Nat} {x : V} (e : (fs.map V.int)[i]? = some x) : x = V.int (fs.getD i 0) ∧ (fs.getD i 0).natAbs.log2 < 1920 ∧ V.str (Str.ofString (toString (fs.getD i 0))) = V.str (S [U.dig (fs.getD i 0)]) := by
  obtain ⟨e1, hi⟩ := intAt e
  obtain ⟨x0, x1⟩ := hf _ (getD_mem hi)
  refine ⟨e1, ?_, by rw [str_dig x0 x1]⟩
  have : fs.getD i 0 = 0 ∨ fs.getD i 0 = 1 ∨ fs.getD i 0 = 2 ∨ fs.getD i 0 = 3 := by omega
  rcases this with h | h | h | h <;> rw [h] <;> decide
theorem digs_lt {fs : List Int} (hf : figs4 fs) : ∀ c ∈ fs.map U.dig, c < 128 := fun c hc => by
  obtain ⟨x, hx, rfl⟩ := List.mem_map.mp hc
  exact dig_lt (hf x hx).1 (hf x hx).2
section
variable {P : Program} {w : World} {K : PySem.W.Frag} {mg : Str → Option Value} {base : Heap} {aP cw : Addr} {c : Nat → Addr}
theorem sc_word_by : FnScope ["script", "k", "wires", "cell", "figures"] ["script", "k", "wires"] (defScope s__law_word_by) := ⟨rfl, rfl, rfl, by decide +kernel, rfl, by decide +kernel, by decide +kernel⟩
theorem ok_word_by (T : TxtB mg) (Gc : FnP P w K mg base 1 "_law_cell_at" ["script", "k"] (spCell K)) (Gd : FnP P w K mg base 1 "_law_draw" ["cell", "k", "bound"] spDraw) (D : DefT K mg "_law_word_by" s__law_word_by ["script", "k", "wires"]) :
    FnP P w K mg base 2 "_law_word_by" ["script", "k", "wires"] (spWordBy K) := by
  refine D.ok sc_word_by (fun vs H Q E h => ?_) (fun f cdv A outer s H vs Q E hr h => ?_)
  · obtain ⟨a, ns, k, n, rfl, _⟩ := h
    rfl
  · obtain ⟨a, ns, k, n, rfl, hS, h1, h4, q⟩ := h
    have nd := sc_word_by.nd
    refine ⟨_, pss_cons (ps_set (i := 3) nd rfl (Or.inr rfl) (pe_fn Gc hr rfl (pa_cons (pv 0) (pa_cons (pe_op op_add pe_int (pv 1)) pa_nil))))
      (pss_cons (ps_set (i := 4) nd rfl (Or.inr rfl) (pe_comp (N' := ["j", "cell", "wires"]) (cap := [none, some 3, some 2]) (show CapOk ["script", "k", "wires", "cell", "figures"] _ _ (defScope s__law_word_by) _ from by decide +kernel) rfl
        (pi_range1 rfl T.range (pa_cons (pe_op op_add pe_int (pe_op op_mod (pv 3) pe_int)) pa_nil)) (fun _ _ _ _ _ _ => pg_name (i := 0) (show List.Nodup (["j", "cell", "wires"] : List Str) from by decide +kernel) rfl (Or.inl rfl)) (fun _ _ _ _ _ _ => pif_nil)
        (fun _ _ _ _ _ _ => pe_mid (pe_fn Gd hr rfl (pa_cons (pv 1) (pa_cons (pv 0) (pa_cons (pv 2) pa_nil))))) (gk_name rfl)))
      (pss_cons (ps_mid (ps_if (pt_cmpR op_gt (pe_op op_mod (pe_op op_fdiv (pv 3) pe_int) pe_int) pe_int (nomark _))
        (pss_one (ps_set (i := 4) nd rfl (Or.inr rfl) (pe_op op_cat (pe_lst (pa_cons (pe_ix ix_list (pv 4) pe_int (fun _ _ => rfl)) pa_nil))
          (pe_callB (call_sortedS rfl) rfl T.sorted (by decide +kernel) (pa_cons (pe_callTy (call_setI rfl) rfl T.set (by decide +kernel) (pa_cons (pe_comp (N' := ["one", "figures"]) (cap := [none, some 4]) (show CapOk ["script", "k", "wires", "cell", "figures"] _ _ (defScope s__law_word_by) _ from by decide +kernel) rfl
            (pi_list (pv 4)) (fun _ _ _ _ _ _ => pg_name (i := 0) (show List.Nodup (["one", "figures"] : List Str) from by decide +kernel) rfl (Or.inl rfl)) (fun _ _ _ _ _ _ => pif_one (pt_cmpR op_ne (pv 0) (pe_ix (ix_listK (K := K) rfl) (pv 1) pe_int (fun _ _ => rfl)) (nomark _)))
            (fun _ _ _ _ _ _ => pv 0) (gk_name rfl)) pa_nil)) pa_nil))))) pss_nil))
      (pss_cons (ps_if (pt_cmpR op_eq (pe_op op_mod (pe_op op_fdiv (pv 3) pe_int) pe_int) pe_int (nomark _))
        (pss_cons (ps_set (i := 4) nd rfl (Or.inr rfl) (pe_callB (call_sortedS rfl) rfl T.sorted (by decide +kernel) (pa_cons (pe_callTy (call_setI rfl) rfl T.set (by decide +kernel) (pa_cons (pe_lst (pa_cons (pe_ix ix_list (pv 4) pe_int (fun _ _ => rfl)) (pa_cons (pe_op op_mod (pe_op op_fdiv (pv 3) pe_int) (pv 2)) pa_nil))) pa_nil)) pa_nil)))
        (pss_one (ps_ret (pe_op op_add_str pe_str (pe_bm PySem.F.plainAttrs_str PySem.F.slot_str_join PySem.F.type_str_join mt_join pe_str (pa_cons (pe_comp (N' := ["one"]) (cap := [none]) (show CapOk ["script", "k", "wires", "cell", "figures"] _ _ (defScope s__law_word_by) _ from by decide +kernel) rfl
          (pi_list (pv 4)) (fun _ _ _ _ _ _ => pg_name (i := 0) (show List.Nodup (["one"] : List Str) from by decide +kernel) rfl (Or.inl rfl)) (fun _ _ _ _ _ _ => pif_nil) (fun _ _ _ _ _ _ => pe_mid (pe_callTy call_str_int rfl T.str (by decide +kernel) (pa_cons (pv 0) pa_nil))) (gk_name rfl)) pa_nil)))))) pss_nil)
      (pss_one (ps_ret (pe_op op_add_str (pe_ix ix_list (pe_lst (pa_cons pe_str (pa_cons pe_str (pa_cons pe_str (pa_cons pe_str (pa_cons pe_str pa_nil)))))) (pe_op op_mod (pe_op op_fdiv (pv 3) pe_int) pe_int) (fun _ _ => rfl))
        (pe_bm PySem.F.plainAttrs_str PySem.F.slot_str_join PySem.F.type_str_join mt_join pe_str (pa_cons (pe_comp (N' := ["one"]) (cap := [none]) (show CapOk ["script", "k", "wires", "cell", "figures"] _ _ (defScope s__law_word_by) _ from by decide +kernel) rfl
          (pi_list (pv 4)) (fun _ _ _ _ _ _ => pg_name (i := 0) (show List.Nodup (["one"] : List Str) from by decide +kernel) rfl (Or.inl rfl)) (fun _ _ _ _ _ _ => pif_nil) (fun _ _ _ _ _ _ => pe_mid (pe_callTy call_str_int rfl T.str (by decide +kernel) (pa_cons (pv 0) pa_nil))) (gk_name rfl)) pa_nil)))))))), ?_⟩
    refine ⟨_, rfl, _, rfl, _, _, rfl, rfl, a, ns, _, rfl, hS, by omega, ?_⟩
    show gName 3 (V.int (ns.getD ((1 : Int) + (k : Int)).toNat 0)) _ _ _
    generalize ns.getD ((1 : Int) + (k : Int)).toNat 0 = cl
    have m4 := emod4 (x := cl) (n := 4) (by decide) (by decide)
    refine ⟨_, rfl, _, _, rfl, rfl, (by show (0 : Int) < 4; decide), _, _, rfl, rfl, _, rfl, by omega, by omega, ?_⟩
    obtain ⟨m, em, hm1, hm4⟩ : ∃ m : Nat, ((1 : Int) + cl % 4).toNat = m ∧ 1 ≤ m ∧ m ≤ 4 := ⟨_, rfl, by omega, by omega⟩
    rw [em]
    refine L2.comp_map (over_rng (n := m)) (len3 _ (by rw [rngV_len]; omega)) (fun i y _ => ∃ x : Int, y = V.int x ∧ 0 ≤ x ∧ x < 4) (fun _ _ _ _ _ h => h) (fun i y H' e s1 => ?_) (fun ys H1 s1 hyl hF D1 hD1 => ?_)
    · obtain ⟨hi, rfl⟩ := rngV_get e
      have hd : 0 ≤ U.draw cl (i : Int) (n : Int) ∧ U.draw cl (i : Int) (n : Int) < 4 := by
        unfold U.draw
        exact emod4 (by omega) (by omega)
      exact ⟨_, rfl, _, rfl, _, rfl, cl, (i : Int), (n : Int), rfl, by omega, by omega, by omega, Same.refl _, _, rfl, hd⟩
    rw [rngV_len] at hyl
    obtain ⟨fs, rfl, hfs⟩ := ints_of hF
    rw [List.length_map] at hyl
    have s2 := s1.trans (Same.upd (o := .lst (fs.map V.int)) hD1)
    have e2 : upd H1 D1 (.lst (fs.map V.int)) D1 = some (.lst (fs.map V.int)) := upd_same
    generalize upd H1 D1 (.lst (fs.map V.int)) = H2 at s2 e2
    refine ⟨fun σ' H' => ∃ (G : Addr) (gs : List Int), σ' = [some (.ref a), some (.int k), some (.int n), some (.int cl), some (.ref G)] ∧ Same H H' ∧ H' G = some (.lst (gs.map V.int)) ∧ 1 ≤ gs.length ∧ gs.length ≤ 5 ∧ figs4 gs, ?_, ?_⟩
    · refine ⟨_, rfl, _, _, rfl, rfl, ⟨by decide, by decide⟩, _, _, rfl, rfl, (by show (0 : Int) < 4; decide), _, _, rfl, rfl, _, rfl, ifB (fun h => ?_) (fun h => ⟨D1, fs, rfl, s2, e2, by omega, by omega, hfs⟩)⟩
      have f0 := hfs _ (getD_mem (ns := fs) (i := 0) (by omega))
      refine ⟨_, rfl, D1, _, _, _, rfl, rfl, SqL.of e2, atI_ints (by decide) (by omega), len3 1, fun l1 hl1 => ?_⟩
      have t1 := Same.upd (o := .lst [V.int (fs.getD (Int.toNat 0) 0)]) hl1
      have x1 : upd H2 l1 (.lst [V.int (fs.getD (Int.toNat 0) 0)]) l1 = some (.lst [V.int (fs.getD (Int.toNat 0) 0)]) := upd_same
      have y1 := t1 _ _ e2
      generalize upd H2 l1 (.lst [V.int (fs.getD (Int.toNat 0) 0)]) = H3 at t1 x1 y1
      refine ⟨_, rfl, D1, rfl, ⟨_, SqL.of y1⟩, ?_⟩
      refine UG.comp_filter (ns := fs) (p := fun x => !decide (x = fs.getD 0 0)) (over_list (SqL.of y1)) (by omega) (by decide) (fun i x H' Q' e s3 kk => ?_) (fun H4 s4 D4 hD4 => ?_)
      · refine ⟨_, rfl, _, rfl, D1, _, _, _, rfl, rfl, SqL.of (s3 _ _ y1), atI_ints (by decide) (by omega), rfl, _, rfl, ?_⟩
        rw [dI]
        exact kk _ (Same.refl _)
      have t4 := s4.trans (Same.upd (o := .lst ((fs.filter fun x => !decide (x = fs.getD 0 0)).map V.int)) hD4)
      refine ⟨D4, _, rfl, SqL.of upd_same, fun x hx => hfs x (List.mem_filter.mp hx).1, fun l5 hl5 => ⟨l5, rfl, upd_same, fun l6 ms hz6 hm6 hl6 => ?_⟩⟩
      have t6 := (t4.trans (Same.upd hl5)).trans (Same.upd (o := .lst (ms.map V.int)) hl6)
      refine ⟨l1, l6, _, _, rfl, rfl, t6 _ _ x1, upd_same, len3 _ (by rw [List.length_map]; show 1 + ms.length ≤ _; omega), fun l7 hl7 => ⟨l7, fs.getD 0 0 :: ms, rfl, ((s2.trans t1).trans t6).trans (Same.upd hl7), upd_same, by simp, by simp; omega, fun x hx => ?_⟩⟩
      rcases List.mem_cons.mp hx with rfl | hx
      · exact f0
      · exact hm6 x hx
    rintro σ' H3 ⟨G, gs, rfl, s3, eG, g1, g5, hgs⟩
    have g0 := hgs _ (getD_mem (ns := gs) (i := 0) (by omega))
    refine ⟨_, rfl, _, _, rfl, rfl, ⟨by decide, by decide⟩, _, _, rfl, rfl, (by show (0 : Int) < 4; decide), rfl, _, rfl, ifB (fun h => ?_) (fun h => ?_)⟩
    · have hx := emod4 (x := cl / 64) (n := (n : Int)) (by omega) (by omega)
      refine ⟨_, rfl, G, _, _, _, rfl, rfl, SqL.of eG, atI_ints (by decide) (by omega), _, rfl, _, _, rfl, rfl, ⟨by decide, by decide⟩, _, rfl, _, _, rfl, rfl, (by show (0 : Int) < (n : Int); omega), len3 2, fun l1 hl1 => ?_⟩
      refine ⟨l1, [gs.getD (Int.toNat 0) 0, cl / 64 % (n : Int)], rfl, SqL.of upd_same, fun x hx' => ?_, fun l2 hl2 => ⟨l2, rfl, upd_same, fun l3 ms hz hm hl3 => ?_⟩⟩
      · rcases List.mem_cons.mp hx' with rfl | hx'
        · exact g0
        · rcases List.mem_cons.mp hx' with rfl | hx'
          · exact hx
          · cases hx'
      refine ⟨rfl, _, rfl, l3, rfl, ⟨_, SqL.of upd_same⟩, ?_⟩
      refine L2.comp_map (over_list (SqL.of upd_same)) (len3 _ (by rw [List.length_map]; omega)) (fun i y _ => y = V.str (S [U.dig (ms.getD i 0)])) (fun _ _ _ _ _ h => h) (fun i y H' e s5 => ?_) (fun ys H5 s5 hl hF5 D5 hD5 => ?_)
      · obtain ⟨rfl, z1, z2⟩ := str_figs hm e
        exact ⟨_, rfl, _, rfl, z1, Same.refl _, z2⟩
      · have eS : Str.ofString "s" = S [115] := by decide +kernel
        obtain ⟨j1, j2⟩ := join_figs (K := K) (H := H5) (D := D5) hl (by omega) hF5
        refine ⟨_, D5, _, rfl, rfl, j1, by decide +kernel, j2, ?_⟩
        rw [join0_S]
        refine ⟨_, _, rfl, rfl, ?_, ?_⟩
        · rw [eS, S_len, S_len, List.length_map]
          exact Nat.le_trans (show 1 + ms.length ≤ 100 by omega) (by decide)
        · rw [eS, S_app]
          refine q _ _ (by simp; omega) (fun c hc => ?_) (((((s3.trans (Same.upd hl1)).trans (Same.upd hl2)).trans (Same.upd hl3)).trans s5).trans (Same.upd hD5))
          rcases List.mem_append.mp hc with hc | hc
          · have : c = 115 := by simpa using hc
            omega
          · exact digs_lt hm c hc
    · have i0 := Int.emod_nonneg (cl / 64) (b := 5) (by decide)
      have i5 := Int.emod_lt_of_pos (cl / 64) (b := 5) (by decide)
      obtain ⟨l5, el5, ll5, hl5⟩ := lst5 i0 i5
      refine ⟨len3 5, fun l1 hl1 => ⟨_, rfl, _, _, rfl, rfl, ⟨by decide, by decide⟩, _, _, rfl, rfl, (by show (0 : Int) < 5; decide), l1, _, _, _, rfl, rfl, SqL.of upd_same, el5, ?_⟩⟩
      have t1 := s3.trans (Same.upd (o := .lst [V.str "t", V.str "t", V.str "s", V.str "t", V.str ""]) hl1)
      have x1 := Same.upd (o := .lst [V.str "t", V.str "t", V.str "s", V.str "t", V.str ""]) hl1 _ _ eG
      generalize upd H3 l1 (.lst [V.str "t", V.str "t", V.str "s", V.str "t", V.str ""]) = H4 at t1 x1
      refine ⟨rfl, _, rfl, G, rfl, ⟨_, SqL.of x1⟩, ?_⟩
      refine L2.comp_map (over_list (SqL.of x1)) (len3 _ (by rw [List.length_map]; omega)) (fun i y _ => y = V.str (S [U.dig (gs.getD i 0)])) (fun _ _ _ _ _ h => h) (fun i y H' e s5 => ?_) (fun ys H5 s5 hl hF5 D5 hD5 => ?_)
      · obtain ⟨rfl, z1, z2⟩ := str_figs hgs e
        exact ⟨_, rfl, _, rfl, z1, Same.refl _, z2⟩
      · obtain ⟨j1, j2⟩ := join_figs (K := K) (H := H5) (D := D5) hl (by omega) hF5
        refine ⟨_, D5, _, rfl, rfl, j1, by decide +kernel, j2, ?_⟩
        rw [join0_S]
        refine ⟨_, _, rfl, rfl, ?_, ?_⟩
        · rw [S_len, S_len, List.length_map]
          exact Nat.le_trans (show l5.length + gs.length ≤ 100 by omega) (by decide)
        · rw [S_app]
          refine q _ _ (by simp; omega) (fun c hc => ?_) ((t1.trans s5).trans (Same.upd hD5))
          rcases List.mem_append.mp hc with hc | hc
          · exact hl5 c hc
          · exact digs_lt hgs c hc
end
end UG
namespace UG
open PySem L2 PyProof.Rows PySem.Builtin PySem.Builtin.Str
def strsOf : List Expr → Option (List Str)
  | [] => some []
  | e :: es => match e with
    | .Constant (.str x) _ _ => (strsOf es).map (x :: ·)
    | _ => none
def tTexts (l : List Str) : TA := fun _ H Q => Q (l.map V.str) H
theorem pa_texts {X : Cx} : ∀ {es : List Expr} {l : List Str}, strsOf es = some l → PA X es (tTexts l)
  | [], l, h => by
    cases h
    exact pa_nil
  | e :: es, l, h => by
    unfold strsOf at h
    split at h
    · rename_i x j p
      cases hr : strsOf es with
      | none => rw [hr] at h; cases h
      | some r =>
        rw [hr] at h
        cases h
        exact pa_cons (te := tC (.str x)) pe_str (pa_texts hr) (by rfl)
    · cases h
structure PSb (X : Cx) (st : Stmt) (t : TS) : Prop where
  h : PS X st t
structure PSsb (X : Cx) (sts : List Stmt) (t : TS) : Prop where
  h : PSs X sts t
theorem pss_consB {X : Cx} {st : Stmt} {rest : List Stmt} {t u : TS} (h : PS X st t) (hr : PSsb X rest u) : PSs X (st :: rest) (tSeq t u) := pss_cons h hr.h
theorem pssb_cons {X : Cx} {st : Stmt} {rest : List Stmt} {t u : TS} (h : PSb X st t) (hr : PSsb X rest u) : PSsb X (st :: rest) (tSeq t u) := ⟨pss_cons h.h hr.h⟩
theorem ps_texts {X : Cx} {i : Nat} {x : Str} {es : List Expr} {l : List Str} {pos' p pos : Pos} (h : strsOf es = some l) (hN : X.N.Nodup) (hi : X.N[i]? = some x) (hx : X.env.scope.names.lookup x = some .local) :
    PSb X (.Assign [.Name x pos'] (.List es p) pos) (tAsg (tLst (tTexts l)) (gName i)) := ⟨ps_set hN hi (Or.inl hx) (pe_lst (pa_texts h)) (by rfl) (.inr hx)⟩
theorem slice_any (z : Str) (i : Nat) : Txt.slice z none (some (i : Int)) = S (z.cps.toList.take i) := by
  have hl : z.cps.toList.length = z.length := by rw [Array.length_toList]; rfl
  by_cases h : i ≤ z.cps.toList.length
  · exact slice_to h
  · rw [slice_to_beyond (by omega), slice_to (i := z.length) (by omega), List.take_of_length_le (by omega), List.take_of_length_le (by omega)]
theorem strs_of {p : List Nat → Prop} : ∀ {ys : List V}, (∀ (i : Nat) y, ys[i]? = some y → ∃ l : List Nat, y = V.str (S l) ∧ p l) → ∃ ws : List (List Nat), ys = (ws.map S).map V.str ∧ ∀ l ∈ ws, p l
  | [], _ => ⟨[], rfl, fun x hx => by cases hx⟩
  | y :: ys, h => by
    obtain ⟨x, rfl, hx⟩ := h 0 y rfl
    obtain ⟨fs, rfl, hf⟩ := strs_of (ys := ys) fun i y e => h (i + 1) y e
    refine ⟨x :: fs, rfl, fun z hz => ?_⟩
    rcases List.mem_cons.mp hz with rfl | hz
    · exact hx
    · exact hf z hz
theorem join_len10 : ∀ {ws : List (List Nat)}, (∀ w ∈ ws, w.length ≤ 10) → (U.joinL ws).length ≤ 11 * ws.length
  | [], _ => Nat.le_refl _
  | [w], h => by have := h w List.mem_cons_self; show w.length ≤ 11; omega
  | w :: v :: r, h => by
    have h1 := h w List.mem_cons_self
    have h2 := join_len10 (ws := v :: r) fun x hx => h x (List.mem_cons_of_mem _ hx)
    show (w ++ 32 :: U.joinL (v :: r)).length ≤ _
    rw [List.length_append, List.length_cons]
    simp only [List.length_cons] at h2 ⊢
    omega
theorem sum10 : ∀ {ws : List (List Nat)}, (∀ w ∈ ws, w.length ≤ 10) → ((ws.map S).map (·.length)).sum ≤ 10 * ws.length
  | [], _ => Nat.le_refl _
  | w :: r, h => by
    have h1 := h w List.mem_cons_self
    have h2 := sum10 (ws := r) fun x hx => h x (List.mem_cons_of_mem _ hx)
    show (S w).length + ((r.map S).map (·.length)).sum ≤ 10 * (r.length + 1)
    rw [S_len]
    omega
def lOk (m : Nat) (l : List Nat) : Prop := l.length ≤ m ∧ ∀ c ∈ l, c < 128
theorem lOk.text {m : Nat} {l : List Nat} (h : lOk m l) (hm : m ≤ 1000) : textOk (S l) := by
  refine ⟨by rw [S_len]; have := h.1; omega, asc_S h.2, fun w hw => ?_⟩
  have h1 : w.length ≤ (S l).length := (words_of hw).1
  have h2 : (S l).length = l.length := S_len l
  have h3 := h.1
  omega
theorem lOk.put {m : Nat} {l : List Nat} {c : Nat} (h : lOk m l) (hc : c < 128) (i j : Nat) (hj : i ≤ j) : lOk (m + 1) (l.take i ++ [c] ++ l.drop j) := by
  refine ⟨?_, fun d hd => ?_⟩
  · have := h.1
    rw [List.length_append, List.length_append, List.length_take, List.length_drop, List.length_singleton]
    omega
  · rcases List.mem_append.mp hd with hd | hd
    · rcases List.mem_append.mp hd with hd | hd
      · exact h.2 d (List.mem_of_mem_take hd)
      · have : d = c := by simpa using hd
        omega
    · exact h.2 d (List.mem_of_mem_drop hd)
theorem lOk.less {m : Nat} {l : List Nat} (h : lOk m l) (i j : Nat) (hj : i ≤ j) : lOk m (l.take i ++ l.drop j) := by
  refine ⟨?_, fun d hd => ?_⟩
  · have := h.1
    rw [List.length_append, List.length_take, List.length_drop]
    omega
  · rcases List.mem_append.mp hd with hd | hd
    · exact h.2 d (List.mem_of_mem_take hd)
    · exact h.2 d (List.mem_of_mem_drop hd)
theorem lOk.mono {m k : Nat} {l : List Nat} (h : lOk m l) (hk : m ≤ k) : lOk k l := ⟨Nat.le_trans h.1 hk, h.2⟩
theorem foldl_S (a : List Nat) : ∀ (n : Nat) (acc : List Nat), (List.replicate n a.toArray).foldl (· ++ ·) acc.toArray = (acc ++ (List.replicate n a).flatten).toArray
  | 0, acc => by simp
  | n + 1, acc => by
    rw [List.replicate_succ, List.foldl_cons, List.append_toArray, foldl_S a n, List.replicate_succ, List.flatten_cons, List.append_assoc]
theorem rep_S (a : List Nat) (n : Nat) : (⟨(List.replicate n (S a).cps).foldl (· ++ ·) #[]⟩ : Str) = S (List.replicate n a).flatten := by
  have := foldl_S a n []
  show (⟨(List.replicate n a.toArray).foldl (· ++ ·) ([] : List Nat).toArray⟩ : Str) = _
  rw [this]
  rfl
theorem many_ok {m : Nat} (h : m ≤ 1001) : textOk (S (U.joinL (List.replicate m [116, 48]))) := by
  have hw : ∀ w ∈ List.replicate m [116, 48], w = [116, 48] := fun w hw => (List.mem_replicate.mp hw).2
  have hl := U.joinL_len (ws := List.replicate m [116, 48]) fun w h' => by rw [hw w h']; decide
  rw [List.length_replicate] at hl
  refine ⟨by rw [S_len]; omega, asc_S fun c hc => ?_, fun w h' => ?_⟩
  · rcases U.joinL_mem hc with rfl | ⟨w, h1, h2⟩
    · decide
    · rw [hw w h1] at h2
      have h3 : c = 116 ∨ c = 48 := by simpa using h2
      omega
  · cases m with
    | zero =>
      have : wordsOf (S (U.joinL (List.replicate 0 [116, 48]))) = [] := by decide +kernel
      rw [this] at h'
      cases h'
    | succ m =>
      unfold wordsOf at h'
      split at h'
      · cases h'
      · rw [split_S (by simp [List.replicate_succ]) (fun w h1 => by rw [hw w h1]; decide)] at h'
        obtain ⟨v, hv, rfl⟩ := List.mem_map.mp h'
        rw [hw v hv]
        decide
abbrev someS : List Str := ["s", "t", "T", "0", "1", "2", "3", "4", " ", "-", "+", "_", "\t", "\n", "a", "9"]
abbrev someV : List V := someS.map V.str
theorem some_at {i : Int} (h0 : 0 ≤ i) (h : i < 16) : ∃ c : Nat, atI someV i = some (V.str (S [c])) ∧ c < 128 := by
  have : i = 0 ∨ i = 1 ∨ i = 2 ∨ i = 3 ∨ i = 4 ∨ i = 5 ∨ i = 6 ∨ i = 7 ∨ i = 8 ∨ i = 9 ∨ i = 10 ∨ i = 11 ∨ i = 12 ∨ i = 13 ∨ i = 14 ∨ i = 15 := by omega
  rcases this with rfl | rfl | rfl | rfl | rfl | rfl | rfl | rfl | rfl | rfl | rfl | rfl | rfl | rfl | rfl | rfl
  · exact ⟨115, by decide +kernel, by decide⟩
  · exact ⟨116, by decide +kernel, by decide⟩
  · exact ⟨84, by decide +kernel, by decide⟩
  · exact ⟨48, by decide +kernel, by decide⟩
  · exact ⟨49, by decide +kernel, by decide⟩
  · exact ⟨50, by decide +kernel, by decide⟩
  · exact ⟨51, by decide +kernel, by decide⟩
  · exact ⟨52, by decide +kernel, by decide⟩
  · exact ⟨32, by decide +kernel, by decide⟩
  · exact ⟨45, by decide +kernel, by decide⟩
  · exact ⟨43, by decide +kernel, by decide⟩
  · exact ⟨95, by decide +kernel, by decide⟩
  · exact ⟨9, by decide +kernel, by decide⟩
  · exact ⟨10, by decide +kernel, by decide⟩
  · exact ⟨97, by decide +kernel, by decide⟩
  · exact ⟨57, by decide +kernel, by decide⟩
theorem far_at {f i : Int} (hf : 0 ≤ f) (h0 : 0 ≤ i) (h : i < 4) : ∃ v : Int, atI [V.int 0, V.int 5, V.int (0 - f), V.int (5 + f)] i = some (V.int v) ∧ okW v = false := by
  have : i = 0 ∨ i = 1 ∨ i = 2 ∨ i = 3 := by omega
  have no : ∀ v : Int, (v ≤ 0 ∨ 5 ≤ v) → okW v = false := fun v hv => by
    unfold okW
    rcases hv with hv | hv
    · rw [decide_eq_false (by omega)]; rfl
    · rw [show decide (v ≤ 4) = false from decide_eq_false (by omega), Bool.and_false]
  rcases this with rfl | rfl | rfl | rfl
  · exact ⟨0, rfl, by decide⟩
  · exact ⟨5, rfl, by decide⟩
  · exact ⟨0 - f, rfl, no _ (.inl (by omega))⟩
  · exact ⟨5 + f, rfl, no _ (.inr (by omega))⟩
def st5 : Stmt := (defBody s_law).getD 4 (.Pass ⟨0, 0, 0, 0⟩)
theorem ps_some {X : Cx} (hN : X.N.Nodup) (hi : X.N[5]? = some (Str.ofString "some")) (hx : X.env.scope.names.lookup (Str.ofString "some") = some .local) : PSb X st5 (tAsg (tLst (tTexts someS)) (gName 5)) := ps_texts (by decide +kernel) hN hi hx
section
variable {P : Program} {w : World} {K : PySem.W.Frag} {mg : Str → Option Value} {base : Heap} {aP cw : Addr} {c : Nat → Addr}
theorem sc_law : FnScope ["script", "wires", "text", "way", "at", "some", "sign", "far", "due", "found"] ["script"] (defScope s_law) := ⟨rfl, rfl, rfl, by decide +kernel, rfl, by decide +kernel, by decide +kernel⟩
theorem ok_law {f : Addr} {fd : FuncData} (F : Fun K "law" "law" s_law f fd) (T : TxtB mg) (Gc : FnP P w K mg base 1 "_law_cell_at" ["script", "k"] (spCell K)) (Gb : FnP P w K mg base 2 "_law_word_by" ["script", "k", "wires"] (spWordBy K))
    (Gr : FnP P w K mg base 2 "_law_read" ["wires", "text"] (spLRead K)) (Gt : FnP P w K mg base 6 "_law_told" ["wires", "text"] (spTold12 K)) : FnOk P w K mg base CX0 7 f fd ["script"] (spLaw K) := by
  refine F.ok sc_law (fun vs H Q E h => ?_) (fun cdv A outer s H vs Q E hr h => ?_)
  · obtain ⟨a, ns, rfl, _⟩ := h
    rfl
  · obtain ⟨a, ns, rfl, hS, hlen, q⟩ := h
    have nd := sc_law.nd
    have hr1 := hr.mono (j := 1) (by decide)
    have hr2 := hr.mono (j := 2) (by decide)
    have hu2 := Nat.lt_of_le_of_lt (Nat.add_le_add_left (by decide : 2 ≤ 64) _) hr.units
    refine ⟨_, pss_cons (ps_set (i := 1) nd rfl (Or.inr rfl) (pe_op op_add pe_int (pe_op op_mod (pe_fn Gc hr1 rfl (pa_cons (pv 0) (pa_cons pe_int pa_nil))) pe_int)))
      (pss_cons (ps_set (i := 2) nd rfl (Or.inl rfl) (pe_bm PySem.F.plainAttrs_str PySem.F.slot_str_join PySem.F.type_str_join mt_join pe_str (pa_cons (pe_comp (N' := ["k", "script", "wires"]) (cap := [none, some 0, some 1]) (show CapOk ["script", "wires", "text", "way", "at", "some", "sign", "far", "due", "found"] _ _ (defScope s_law) _ from by decide +kernel) rfl
        (pi_range1 rfl T.range (pa_cons (pe_op op_mod (pe_op op_fdiv (pe_fn Gc hr1 rfl (pa_cons (pv 0) (pa_cons pe_int pa_nil))) pe_int) pe_int) pa_nil)) (fun _ _ _ _ _ _ => pg_name (i := 0) (show List.Nodup (["k", "script", "wires"] : List Str) from by decide +kernel) rfl (Or.inl rfl)) (fun _ _ _ _ _ _ => pif_nil)
        (fun _ _ _ _ _ _ => pe_mid (pe_fn Gb hr2 rfl (pa_cons (pv 1) (pa_cons (pv 0) (pa_cons (pv 2) pa_nil))))) (gk_name rfl)) pa_nil)))
      (pss_cons (ps_set (i := 3) nd rfl (Or.inl rfl) (pe_op op_mod (pe_fn Gc hr1 rfl (pa_cons (pv 0) (pa_cons pe_int pa_nil))) pe_int))
      (pss_consB (ps_set (i := 4) nd rfl (Or.inl rfl) (pe_op op_mod (pe_fn Gc hr1 rfl (pa_cons (pv 0) (pa_cons pe_int pa_nil))) (pe_op op_add (pe_callB call_len_str rfl T.len PySem.boot_len (pa_cons (pv 2) pa_nil)) pe_int)))
      (pssb_cons (ps_some nd rfl rfl) (PSsb.mk
      (pss_cons (ps_set (i := 6) nd rfl (Or.inl rfl) (pe_ix ix_list (pv 5) (pe_op op_mod (pe_fn Gc hr1 rfl (pa_cons (pv 0) (pa_cons pe_int pa_nil))) pe_int) (fun _ _ => rfl)))
      (pss_cons (ps_mid (ps_if (PW.pt (pw_or (pt_cmpR op_eq (pv 3) pe_int (nomark _)) (pw_or1 (pt_cmpR op_eq (pv 3) pe_int (nomark _)))))
        (pss_one (ps_set (i := 2) nd rfl (Or.inl rfl) (pe_op op_add_str (pe_op op_add_str (pe_slice sl_str (pv 2) po_none (po_some (pv 4))) (pv 6)) (pe_slice sl_str (pv 2) (po_some (pv 4)) po_none)))) pss_nil))
      (pss_cons (ps_mid (ps_if (pt_cmpR op_eq (pv 3) pe_int (nomark _))
        (pss_one (ps_set (i := 2) nd rfl (Or.inl rfl) (pe_op op_add_str (pe_slice sl_str (pv 2) po_none (po_some (pv 4))) (pe_slice sl_str (pv 2) (po_some (pe_op op_add (pv 4) pe_int)) po_none)))) pss_nil))
      (pss_cons (ps_mid (ps_if (pt_cmpR op_eq (pv 3) pe_int (nomark _))
        (pss_one (ps_set (i := 2) nd rfl (Or.inl rfl) (pe_op op_add_str (pe_op op_add_str (pe_slice sl_str (pv 2) po_none (po_some (pv 4))) (pv 6)) (pe_slice sl_str (pv 2) (po_some (pe_op op_add (pv 4) pe_int)) po_none)))) pss_nil))
      (pss_cons (ps_mid (ps_if (pt_cmpR op_eq (pe_op op_mod (pe_fn Gc hr1 rfl (pa_cons (pv 0) (pa_cons pe_int pa_nil))) pe_int) pe_int (nomark _))
        (pss_one (ps_set (i := 2) nd rfl (Or.inl rfl) (pe_op op_add_str pe_str (pe_op op_mulS pe_str (pe_op op_add pe_int (pe_op op_mod (pe_op op_fdiv (pe_fn Gc hr1 rfl (pa_cons (pv 0) (pa_cons pe_int pa_nil))) pe_int) pe_int)))))) pss_nil))
      (pss_cons (ps_if (pt_cmpR op_eq (pe_op op_mod (pe_fn Gc hr1 rfl (pa_cons (pv 0) (pa_cons pe_int pa_nil))) pe_int) pe_int (nomark _))
        (pss_cons (ps_set (i := 7) nd rfl (Or.inl rfl) (pe_op op_mod (pe_fn Gc hr1 rfl (pa_cons (pv 0) (pa_cons pe_int pa_nil))) (pe_op op_pow pe_int pe_int)))
        (pss_one (ps_ret (pe_cmpR op_eq (pe_fn Gt hr rfl (pa_cons (pe_ix ix_list (pe_lst (pa_cons pe_int (pa_cons pe_int (pa_cons (pe_op op_sub pe_int (pv 7)) (pa_cons (pe_op op_add pe_int (pv 7)) pa_nil))))) (pe_op op_mod (pe_op op_fdiv (pe_fn Gc hr1 rfl (pa_cons (pv 0) (pa_cons pe_int pa_nil))) pe_int) pe_int) (fun _ _ => rfl)) (pa_cons (pv 2) pa_nil))) pe_str (nomark _))))) pss_nil)
      (pss_cons (ps_set (i := 8) nd rfl (Or.inl rfl) (pe_fn Gr hr2 rfl (pa_cons (pv 1) (pa_cons (pv 2) pa_nil))))
      (pss_cons (ps_set (i := 9) nd rfl (Or.inl rfl) (pe_fn Gt hr rfl (pa_cons (pv 1) (pa_cons (pv 2) pa_nil))))
      (pss_cons (ps_if (pt_cmpR op_isN (pv 8) pe_non (nomark _)) (pss_one (ps_ret (pe_cmpR op_eq (pv 9) pe_str (nomark _)))) pss_nil)
      (pss_one (ps_ret (pe_and (pe_callB call_isinst rfl T.isin (by decide +kernel) (pa_cons (pv 9) (pa_cons (pe_bltn (v := .ty "list") rfl T.list (by decide +kernel) rfl) pa_nil)))
        (pe_one (pe_cmpR (op_eqR hu2) (pv 9) (pv 8) (nomark _)))))))))))))))))))), ?_⟩
    have c0 : ∀ {H' : Hp}, Same H H' → SqL K H' a (ns.map V.int) := fun s => s.seq hS
    -- wires
    refine ⟨_, rfl, a, ns, 0, rfl, hS, by decide, _, _, rfl, rfl, (by show (0 : Int) < 4; decide), _, _, rfl, rfl, ?_⟩
    obtain ⟨n, en, h1, h4⟩ : ∃ n : Nat, (1 : Int) + ns.getD (Int.toNat 0) 0 % 4 = (n : Int) ∧ 1 ≤ n ∧ n ≤ 4 := by
      have b0 := Int.emod_nonneg (ns.getD (Int.toNat 0) 0) (b := 4) (by decide)
      have b1 := Int.emod_lt_of_pos (ns.getD (Int.toNat 0) 0) (b := 4) (by decide)
      exact ⟨((1 : Int) + ns.getD (Int.toNat 0) 0 % 4).toNat, by omega, by omega, by omega⟩
    show gName 1 (V.int ((1 : Int) + ns.getD (Int.toNat 0) 0 % 4)) _ _ _
    rw [en]
    -- text
    have w0 := Int.emod_nonneg (ns.getD (Int.toNat 0) 0 / 4) (b := 5) (by decide)
    have w5 := Int.emod_lt_of_pos (ns.getD (Int.toNat 0) 0 / 4) (b := 5) (by decide)
    refine ⟨rfl, _, rfl, a, ns, 0, rfl, hS, by decide, _, _, rfl, rfl, ⟨by decide, by decide⟩, _, _, rfl, rfl, (by show (0 : Int) < 5; decide), _, rfl, by omega, by omega, ?_⟩
    obtain ⟨m, em, hm5⟩ : ∃ m : Nat, (ns.getD (Int.toNat 0) 0 / 4 % 5).toNat = m ∧ m ≤ 4 := ⟨_, rfl, by omega⟩
    rw [em]
    refine L2.comp_map (over_rng (n := m)) (len3 _ (by rw [rngV_len]; omega)) (fun i y _ => ∃ l : List Nat, y = V.str (S l) ∧ (l.length ≤ 10 ∧ ∀ c ∈ l, c < 128)) (fun _ _ _ _ _ h => h) (fun i y H' e s1 => ?_) (fun ys H1 s1 hyl hF D1 hD1 => ?_)
    · obtain ⟨hi, rfl⟩ := rngV_get e
      exact ⟨_, rfl, _, rfl, _, rfl, a, ns, i, n, rfl, c0 s1, h1, h4, fun l H'' hl hc s2 => ⟨s2, l, rfl, hl, hc⟩⟩
    rw [rngV_len] at hyl
    obtain ⟨ws, rfl, hws⟩ := strs_of hF
    rw [List.length_map, List.length_map] at hyl
    refine ⟨_, D1, ws.map S, rfl, rfl, SqL.of upd_same, by decide +kernel, ?_, ?_⟩
    · have := sum10 fun w hw => (hws w hw).1
      rw [List.length_map]
      omega
    rw [join_S]
    have s2 := s1.trans (Same.upd (o := .lst ((ws.map S).map V.str)) hD1)
    generalize upd H1 D1 (.lst ((ws.map S).map V.str)) = H2 at s2
    have lt : lOk 50 (U.joinL ws) := by
      refine ⟨?_, fun c hc => ?_⟩
      · have := join_len10 fun w hw => (hws w hw).1
        omega
      · rcases U.joinL_mem hc with rfl | ⟨w, h1, h2⟩
        · decide
        · exact (hws w h1).2 c h2
    generalize U.joinL ws = l0 at lt
    have szs : ∀ (x y : List Nat), x.length ≤ 10000 → y.length ≤ 10000 → (S x).length + (S y).length ≤ sizeLine := fun x y hx hy => by
      rw [S_len, S_len]
      exact Nat.le_trans (show x.length + y.length ≤ 20000 by omega) (by decide)
    have sz1 : ∀ {x : List Nat}, x.length ≤ 10000 → (S x).length ≤ sizeLine := fun {x} hx => by
      rw [S_len]
      exact Nat.le_trans hx (by decide)
    -- way, at, some, sign
    refine ⟨_, rfl, a, ns, 6, rfl, c0 s2, by decide, _, _, rfl, rfl, (by show (0 : Int) < 8; decide), ?_⟩
    show gName 3 (V.int (ns.getD (Int.toNat 6) 0 % 8)) _ _ _
    generalize ns.getD (Int.toNat 6) 0 % 8 = way
    refine ⟨_, rfl, a, ns, 7, rfl, c0 s2, by decide, _, rfl, S l0, rfl, sz1 (by have := lt.1; omega), _, _, rfl, rfl, _, _, rfl, rfl, (by show (0 : Int) < ((S l0).length : Int) + 1; omega), ?_⟩
    show gName 4 (V.int (ns.getD (Int.toNat 7) 0 % (((S l0).length : Int) + 1))) _ _ _
    obtain ⟨at', eat⟩ : ∃ i : Nat, ns.getD (Int.toNat 7) 0 % (((S l0).length : Int) + 1) = (i : Int) := by
      have b0 := Int.emod_nonneg (ns.getD (Int.toNat 7) 0) (b := ((S l0).length : Int) + 1) (by omega)
      exact ⟨(ns.getD (Int.toNat 7) 0 % (((S l0).length : Int) + 1)).toNat, by omega⟩
    rw [eat]
    refine ⟨len3 16, fun sm hsm => ?_⟩
    have s3 := s2.trans (Same.upd (o := .lst someV) hsm)
    have e3 : upd H2 sm (.lst someV) sm = some (.lst someV) := upd_same
    generalize upd H2 sm (.lst someV) = H3 at s3 e3
    have i0 := Int.emod_nonneg (ns.getD (Int.toNat 8) 0) (b := 16) (by decide)
    have i1 := Int.emod_lt_of_pos (ns.getD (Int.toNat 8) 0) (b := 16) (by decide)
    obtain ⟨sg, esg, hsg⟩ := some_at i0 i1
    refine ⟨_, rfl, _, rfl, a, ns, 8, rfl, c0 s3, by decide, _, _, rfl, rfl, (by show (0 : Int) < 16; decide), sm, _, _, _, rfl, rfl, SqL.of e3, esg, ?_⟩
    -- a sign put in
    refine ⟨fun σ' H' => ∃ l : List Nat, σ' = [some (.ref a), some (.int n), some (.str (S l)), some (.int way), some (.int at'), some (.ref sm), some (.str (S [sg])), none, none, none] ∧ H' = H3 ∧ lOk 51 l, ?_, ?_⟩
    · have l51 := lt.mono (k := 51) (by decide)
      have hb := lt.1
      have put : ∃ l : List Nat, ([some (.ref a), some (.int n), some (.str (Txt.slice (S l0) none (some (at' : Int)) ++ S [sg] ++ Txt.slice (S l0) (some (at' : Int)) none)), some (.int way), some (.int at'), some (.ref sm), some (.str (S [sg])), none, none, none] : L2.St) =
          [some (.ref a), some (.int n), some (.str (S l)), some (.int way), some (.int at'), some (.ref sm), some (.str (S [sg])), none, none, none] ∧ H3 = H3 ∧ lOk 51 l := by
        refine ⟨l0.take at' ++ [sg] ++ l0.drop at', ?_, rfl, lt.put hsg _ _ (Nat.le_refl _)⟩
        rw [slice_any, slice_from, S_app, S_app]
      have big : (Txt.slice (S l0) none (some (at' : Int))).length + (S [sg]).length ≤ sizeLine ∧ (Txt.slice (S l0) none (some (at' : Int)) ++ S [sg]).length + (Txt.slice (S l0) (some (at' : Int)) none).length ≤ sizeLine := by
        rw [slice_any, slice_from, S_app]
        refine ⟨szs _ _ ?_ (by show 1 ≤ 10000; decide), szs _ _ ?_ ?_⟩
        · show (l0.take at').length ≤ 10000
          rw [List.length_take]; omega
        · show (l0.take at' ++ [sg]).length ≤ 10000
          rw [List.length_append, List.length_take, List.length_singleton]; omega
        · show (l0.drop at').length ≤ 10000
          rw [List.length_drop]; omega
      refine ⟨_, rfl, rfl, _, rfl, ifB (fun h => iteT ?_) (fun h => ⟨_, rfl, rfl, _, rfl, ifB (fun h => ?_) (fun h => ⟨l0, rfl, rfl, l51⟩)⟩)⟩
      · exact ⟨_, rfl, _, rfl, _, rfl, S l0, rfl, sz1 (by omega), _, rfl, _, _, rfl, rfl, big.1, _, rfl, _, rfl, _, rfl, S l0, rfl, sz1 (by omega), _, _, rfl, rfl, big.2, put⟩
      · exact ⟨_, rfl, _, rfl, _, rfl, S l0, rfl, sz1 (by omega), _, rfl, _, _, rfl, rfl, big.1, _, rfl, _, rfl, _, rfl, S l0, rfl, sz1 (by omega), _, _, rfl, rfl, big.2, put⟩
    clear lt
    rintro σ' H' ⟨l1, rfl, hH, lt⟩
    rw [hH]
    clear hH
    -- a sign taken out
    refine ⟨fun σ' H' => ∃ l : List Nat, σ' = [some (.ref a), some (.int n), some (.str (S l)), some (.int way), some (.int at'), some (.ref sm), some (.str (S [sg])), none, none, none] ∧ H' = H3 ∧ lOk 51 l, ?_, ?_⟩
    · have hb := lt.1
      have e1 : Txt.slice (S l1) (some ((at' : Int) + 1)) none = S (l1.drop (at' + 1)) := slice_from (S l1) (at' + 1)
      have put : ∃ l : List Nat, ([some (.ref a), some (.int n), some (.str (Txt.slice (S l1) none (some (at' : Int)) ++ Txt.slice (S l1) (some ((at' : Int) + 1)) none)), some (.int way), some (.int at'), some (.ref sm), some (.str (S [sg])), none, none, none] : L2.St) =
          [some (.ref a), some (.int n), some (.str (S l)), some (.int way), some (.int at'), some (.ref sm), some (.str (S [sg])), none, none, none] ∧ H3 = H3 ∧ lOk 51 l := by
        refine ⟨l1.take at' ++ l1.drop (at' + 1), ?_, rfl, lt.less _ _ (by omega)⟩
        rw [slice_any, e1, S_app]
      have big : (Txt.slice (S l1) none (some (at' : Int))).length + (Txt.slice (S l1) (some ((at' : Int) + 1)) none).length ≤ sizeLine := by
        rw [slice_any, e1]
        refine szs _ _ ?_ ?_
        · show (l1.take at').length ≤ 10000
          rw [List.length_take]; omega
        · rw [List.length_drop]; omega
      refine ⟨_, rfl, rfl, _, rfl, ifB (fun h => ?_) (fun h => ⟨l1, rfl, rfl, lt⟩)⟩
      exact ⟨_, rfl, _, rfl, _, rfl, S l1, rfl, sz1 (by omega), _, rfl, _, rfl, _, _, rfl, rfl, _, rfl, S l1, rfl, sz1 (by omega), _, _, rfl, rfl, big, put⟩
    clear lt
    rintro σ' H' ⟨l2, rfl, hH, lt⟩
    rw [hH]
    clear hH
    -- a sign put in another's place
    refine ⟨fun σ' H' => ∃ l : List Nat, σ' = [some (.ref a), some (.int n), some (.str (S l)), some (.int way), some (.int at'), some (.ref sm), some (.str (S [sg])), none, none, none] ∧ H' = H3 ∧ lOk 52 l, ?_, ?_⟩
    · have hb := lt.1
      have e1 : Txt.slice (S l2) (some ((at' : Int) + 1)) none = S (l2.drop (at' + 1)) := slice_from (S l2) (at' + 1)
      have put : ∃ l : List Nat, ([some (.ref a), some (.int n), some (.str (Txt.slice (S l2) none (some (at' : Int)) ++ S [sg] ++ Txt.slice (S l2) (some ((at' : Int) + 1)) none)), some (.int way), some (.int at'), some (.ref sm), some (.str (S [sg])), none, none, none] : L2.St) =
          [some (.ref a), some (.int n), some (.str (S l)), some (.int way), some (.int at'), some (.ref sm), some (.str (S [sg])), none, none, none] ∧ H3 = H3 ∧ lOk 52 l := by
        refine ⟨l2.take at' ++ [sg] ++ l2.drop (at' + 1), ?_, rfl, lt.put hsg _ _ (by omega)⟩
        rw [slice_any, e1, S_app, S_app]
      have big : (Txt.slice (S l2) none (some (at' : Int))).length + (S [sg]).length ≤ sizeLine ∧ (Txt.slice (S l2) none (some (at' : Int)) ++ S [sg]).length + (Txt.slice (S l2) (some ((at' : Int) + 1)) none).length ≤ sizeLine := by
        rw [slice_any, e1, S_app]
        refine ⟨szs _ _ ?_ (by show 1 ≤ 10000; decide), szs _ _ ?_ ?_⟩
        · show (l2.take at').length ≤ 10000
          rw [List.length_take]; omega
        · show (l2.take at' ++ [sg]).length ≤ 10000
          rw [List.length_append, List.length_take, List.length_singleton]; omega
        · rw [List.length_drop]; omega
      refine ⟨_, rfl, rfl, _, rfl, ifB (fun h => ?_) (fun h => ⟨l2, rfl, rfl, lt.mono (by decide)⟩)⟩
      exact ⟨_, rfl, _, rfl, _, rfl, S l2, rfl, sz1 (by omega), _, rfl, _, _, rfl, rfl, big.1, _, rfl, _, rfl, _, _, rfl, rfl, _, rfl, S l2, rfl, sz1 (by omega), _, _, rfl, rfl, big.2, put⟩
    clear lt
    rintro σ' H' ⟨l3, rfl, hH, lt⟩
    rw [hH]
    clear hH
    -- the long one
    refine ⟨fun σ' H' => ∃ z : Str, σ' = [some (.ref a), some (.int n), some (.str z), some (.int way), some (.int at'), some (.ref sm), some (.str (S [sg])), none, none, none] ∧ H' = H3 ∧ textOk z, ?_, ?_⟩
    · refine ⟨_, rfl, a, ns, 9, rfl, c0 s3, by decide, _, _, rfl, rfl, (by show (0 : Int) < 9; decide), rfl, _, rfl, ifB (fun h => ?_) (fun h => ⟨_, rfl, rfl, lt.text (by decide)⟩)⟩
      have y0 := Int.emod_nonneg (ns.getD (Int.toNat 9) 0 / 9) (b := 2) (by decide)
      have y1 := Int.emod_lt_of_pos (ns.getD (Int.toNat 9) 0 / 9) (b := 2) (by decide)
      obtain ⟨m', em', hm1, hm2⟩ : ∃ m : Nat, (999 : Int) + ns.getD (Int.toNat 9) 0 / 9 % 2 = (m : Int) ∧ 999 ≤ m ∧ m ≤ 1000 := ⟨((999 : Int) + ns.getD (Int.toNat 9) 0 / 9 % 2).toNat, by omega, by omega, by omega⟩
      have eB : Str.ofString " t0" = S [32, 116, 48] := by decide +kernel
      have eT : Str.ofString "t0" = S [116, 48] := by decide +kernel
      refine ⟨_, rfl, a, ns, 9, rfl, c0 s3, by decide, _, _, rfl, rfl, ⟨by decide, by decide⟩, _, _, rfl, rfl, (by show (0 : Int) < 2; decide), _, _, rfl, rfl, Str.ofString " t0", m', rfl, congrArg V.int em', by omega, by omega, by decide +kernel, by decide +kernel, ?_⟩
      rw [eB, rep_S]
      have hL := U.rep_join m'
      have hok := many_ok (m := m' + 1) (by omega)
      have hlen := hok.1
      rw [← hL, S_len, List.length_append] at hlen
      refine ⟨_, _, rfl, rfl, ?_, ?_⟩
      · rw [eT]
        exact szs _ _ (by decide) (by omega)
      · rw [eT, S_app, hL]
        exact ⟨_, rfl, rfl, hok⟩
    clear lt
    rintro σ' H' ⟨z, rfl, hH, tok⟩
    rw [hH]
    clear hH
    have wk : okW (n : Int) = true := by unfold okW; rw [decide_eq_true (by omega), decide_eq_true (by omega)]; rfl
    refine ⟨_, rfl, a, ns, 10, rfl, c0 s3, by decide, _, _, rfl, rfl, (by show (0 : Int) < 8; decide), rfl, _, rfl, ifB (fun h => ?_) (fun h => ?_)⟩
    · refine ⟨_, rfl, a, ns, 10, rfl, c0 s3, by decide, 10, 20, rfl, rfl, ⟨by decide, by decide, by decide⟩, ns.getD (Int.toNat 10) 0, (10 : Int) ^ (Int.toNat 20), rfl, rfl, (by show (0 : Int) < (10 : Int) ^ (Int.toNat 20); decide +kernel), ?_⟩
      have f0 := Int.emod_nonneg (ns.getD (Int.toNat 10) 0) (b := (10 : Int) ^ (Int.toNat 20)) (by decide +kernel)
      show gName 7 (V.int (ns.getD (Int.toNat 10) 0 % (10 : Int) ^ (Int.toNat 20))) _ _ _
      generalize ns.getD (Int.toNat 10) 0 % (10 : Int) ^ (Int.toNat 20) = fr at f0
      have j0 := Int.emod_nonneg (ns.getD (Int.toNat 10) 0 / 8) (b := 4) (by decide)
      have j1 := Int.emod_lt_of_pos (ns.getD (Int.toNat 10) 0 / 8) (b := 4) (by decide)
      obtain ⟨v, ev, hv⟩ := far_at f0 j0 j1
      refine ⟨_, rfl, _, _, rfl, rfl, _, rfl, _, _, rfl, rfl, len3 4, fun l4 hl4 => ?_⟩
      refine ⟨_, rfl, a, ns, 10, rfl, c0 (s3.trans (Same.upd hl4)), by decide, _, _, rfl, rfl, ⟨by decide, by decide⟩, _, _, rfl, rfl, (by show (0 : Int) < 4; decide), l4, _, _, _, rfl, rfl, SqL.of upd_same, ev, _, rfl, v, z, rfl, tok, fun _ H5 s5 => ⟨rfl, ?_⟩, fun m em m1 m4 => ?_⟩
      · have ew : decide (V.str (wordAt 0) = V.str "wires") = true := by decide +kernel
        rw [ew]
        exact q _
      · exfalso
        unfold okW at hv
        rw [em, decide_eq_true (by omega), decide_eq_true (by omega)] at hv
        cases hv
    rcases text_cases n z with hb | ⟨gs, hg⟩
    · refine ⟨_, rfl, _, rfl, n, z, rfl, h4, tok, fun _ H5 s5 => ?_, fun gs hg => (good_bad hg hb).elim⟩
      refine ⟨_, rfl, _, rfl, (n : Int), z, rfl, tok, (fun hw => by rw [wk] at hw; cases hw), fun m em m1 m4 => ?_⟩
      have emn : m = n := by omega
      subst emn
      refine ⟨fun _ H6 s6 => ?_, fun gs hg => (good_bad hg hb).elim⟩
      refine ⟨_, rfl, rfl, _, rfl, ifT (decide_eq_true rfl) ⟨_, rfl, rfl, ?_⟩⟩
      have ew : decide (V.str (wordAt 5) = V.str "note") = true := by decide +kernel
      rw [ew]
      exact q _
    · refine ⟨_, rfl, _, rfl, n, z, rfl, h4, tok, (fun hb => (good_bad hg hb).elim), fun gs1 hg1 l xs H5 s5 fl el R5 => ?_⟩
      refine ⟨_, rfl, _, rfl, (n : Int), z, rfl, tok, (fun hw => by rw [wk] at hw; cases hw), fun m em m1 m4 => ?_⟩
      have emn : m = n := by omega
      subst emn
      refine ⟨(fun hb => (good_bad hg hb).elim), fun gs2 hg2 l2 ys H6 s6 fl2 el2 R6 => ?_⟩
      have eg : gs1 = gs2 := by
        have e1 := hg1.2
        rw [hg2.2] at e1
        exact (List.map_inj_right (f := some) fun _ _ h => Option.some.inj h).mp e1.symm
      subst eg
      refine ⟨_, rfl, rfl, _, rfl, ifF (decide_eq_false fun z' => by cases z') ?_⟩
      refine ⟨_, rfl, _, "list", .type "list", true, rfl, .lst el2, kit_ll, _, rfl, iteT ?_⟩
      refine ⟨_, rfl, _, rfl, l2, l, ys, xs, gs1, gs1, rfl, rfl, SqL.of el2, SqL.of (s6 _ _ el), R6, R5.mono s6, ?_⟩
      rw [decide_eq_true rfl]
      exact q _
end
end UG
namespace UG
open PySem L2
theorem all_mk {l : PySem.W.OpenLaw} {w : World} {K : PySem.W.Frag} {h : Heap} {mg : Str → Option Value} {fa : Addr} (X : K.In h) (G : h.Ns mainGlobals mg) (hfa : mg "law" = some (.ref fa))
    {aF : Addr} {u1 u2 : Tok}
    (mw : PySem.W.nsIn K mainGlobals "MOST_WIRES" = some (some (.int 4 u1)))
    (mt : PySem.W.nsIn K mainGlobals "MOST_GATES" = some (some (.int 1000 u2)))
    (fg : PySem.W.nsIn K mainGlobals "FIGURES" = some (some (.ref aF)))
    (fl : FigIn K aF)
    {xw x0 x1 x2 x3 x4 x5 : Addr} {cd0 cd1 cd2 cd3 cd4 cd5 : ClassData}
    (n_xw : PySem.W.nsIn K mainGlobals "WireError" = some (some (.ref xw)))
    (n_x0 : PySem.W.nsIn K mainGlobals "NoWires" = some (some (.ref x0)))
    (n_x1 : PySem.W.nsIn K mainGlobals "NoGate" = some (some (.ref x1)))
    (n_x2 : PySem.W.nsIn K mainGlobals "NoShuffle" = some (some (.ref x2)))
    (n_x3 : PySem.W.nsIn K mainGlobals "NoTimes" = some (some (.ref x3)))
    (n_x4 : PySem.W.nsIn K mainGlobals "Odd" = some (some (.ref x4)))
    (n_x5 : PySem.W.nsIn K mainGlobals "NoNote" = some (some (.ref x5)))
    (ve : PySem.W.nsIn K mainGlobals "ValueError" = some none)
    (e_gs : PySem.W.specialIn K (.builtin "object.__class__") "__get__" = some (some (.builtin "getset_descriptor.__get__")))
    (e_tk : PySem.W.takesIn K (.builtin "object.__class__") = some true)
    (e_sw : PySem.W.subIn K (.ref xw) (.type "BaseException") = some true)
    (ex0 : PySem.W.excIn K x0 veBase "ValueError.__new__" = true)
    (kv0 : PySem.W.kitOne K (.ref x0) (.type "ValueError") = some true)
    (kw0 : PySem.W.kitOne K (.ref x0) (.ref xw) = some true)
    (ne0 : x0 ≠ xw)
    (cl0 : PySem.W.clsIn K x0 = some cd0)
    (ga0 : PySem.W.findIn K (.ref x0) "__getattribute__" = some (some (.builtin "BaseException.__getattribute__")))
    (gt0 : PySem.W.findIn K (.ref x0) "__getattr__" = some none)
    (ca0 : PySem.W.findIn K (.ref x0) "__class__" = some (some (.builtin "object.__class__")))
    (mo0 : PySem.W.mroIn K x0 (.type "object") = some true)
    (mb0 : PySem.W.mroIn K x0 (.type "BaseException") = some true)
    (ex1 : PySem.W.excIn K x1 veBase "ValueError.__new__" = true)
    (kv1 : PySem.W.kitOne K (.ref x1) (.type "ValueError") = some true)
    (kw1 : PySem.W.kitOne K (.ref x1) (.ref xw) = some true)
    (ne1 : x1 ≠ xw)
    (cl1 : PySem.W.clsIn K x1 = some cd1)
    (ga1 : PySem.W.findIn K (.ref x1) "__getattribute__" = some (some (.builtin "BaseException.__getattribute__")))
    (gt1 : PySem.W.findIn K (.ref x1) "__getattr__" = some none)
    (ca1 : PySem.W.findIn K (.ref x1) "__class__" = some (some (.builtin "object.__class__")))
    (mo1 : PySem.W.mroIn K x1 (.type "object") = some true)
    (mb1 : PySem.W.mroIn K x1 (.type "BaseException") = some true)
    (ex2 : PySem.W.excIn K x2 veBase "ValueError.__new__" = true)
    (kv2 : PySem.W.kitOne K (.ref x2) (.type "ValueError") = some true)
    (kw2 : PySem.W.kitOne K (.ref x2) (.ref xw) = some true)
    (ne2 : x2 ≠ xw)
    (cl2 : PySem.W.clsIn K x2 = some cd2)
    (ga2 : PySem.W.findIn K (.ref x2) "__getattribute__" = some (some (.builtin "BaseException.__getattribute__")))
    (gt2 : PySem.W.findIn K (.ref x2) "__getattr__" = some none)
    (ca2 : PySem.W.findIn K (.ref x2) "__class__" = some (some (.builtin "object.__class__")))
    (mo2 : PySem.W.mroIn K x2 (.type "object") = some true)
    (mb2 : PySem.W.mroIn K x2 (.type "BaseException") = some true)
    (ex3 : PySem.W.excIn K x3 veBase "ValueError.__new__" = true)
    (kv3 : PySem.W.kitOne K (.ref x3) (.type "ValueError") = some true)
    (kw3 : PySem.W.kitOne K (.ref x3) (.ref xw) = some true)
    (ne3 : x3 ≠ xw)
    (cl3 : PySem.W.clsIn K x3 = some cd3)
    (ga3 : PySem.W.findIn K (.ref x3) "__getattribute__" = some (some (.builtin "BaseException.__getattribute__")))
    (gt3 : PySem.W.findIn K (.ref x3) "__getattr__" = some none)
    (ca3 : PySem.W.findIn K (.ref x3) "__class__" = some (some (.builtin "object.__class__")))
    (mo3 : PySem.W.mroIn K x3 (.type "object") = some true)
    (mb3 : PySem.W.mroIn K x3 (.type "BaseException") = some true)
    (ex4 : PySem.W.excIn K x4 veBase "ValueError.__new__" = true)
    (kv4 : PySem.W.kitOne K (.ref x4) (.type "ValueError") = some true)
    (kw4 : PySem.W.kitOne K (.ref x4) (.ref xw) = some true)
    (ne4 : x4 ≠ xw)
    (cl4 : PySem.W.clsIn K x4 = some cd4)
    (ga4 : PySem.W.findIn K (.ref x4) "__getattribute__" = some (some (.builtin "BaseException.__getattribute__")))
    (gt4 : PySem.W.findIn K (.ref x4) "__getattr__" = some none)
    (ca4 : PySem.W.findIn K (.ref x4) "__class__" = some (some (.builtin "object.__class__")))
    (mo4 : PySem.W.mroIn K x4 (.type "object") = some true)
    (mb4 : PySem.W.mroIn K x4 (.type "BaseException") = some true)
    (ex5 : PySem.W.excIn K x5 veBase "ValueError.__new__" = true)
    (kv5 : PySem.W.kitOne K (.ref x5) (.type "ValueError") = some true)
    (kw5 : PySem.W.kitOne K (.ref x5) (.ref xw) = some true)
    (ne5 : x5 ≠ xw)
    (cl5 : PySem.W.clsIn K x5 = some cd5)
    (ga5 : PySem.W.findIn K (.ref x5) "__getattribute__" = some (some (.builtin "BaseException.__getattribute__")))
    (gt5 : PySem.W.findIn K (.ref x5) "__getattr__" = some none)
    (ca5 : PySem.W.findIn K (.ref x5) "__class__" = some (some (.builtin "object.__class__")))
    (mo5 : PySem.W.mroIn K x5 (.type "object") = some true)
    (mb5 : PySem.W.mroIn K x5 (.type "BaseException") = some true)
    (ki00 : PySem.W.kitOne K (.ref x0) (.ref x0) = some true)
    (ki01 : PySem.W.kitOne K (.ref x0) (.ref x1) = some false)
    (ki02 : PySem.W.kitOne K (.ref x0) (.ref x2) = some false)
    (ki03 : PySem.W.kitOne K (.ref x0) (.ref x3) = some false)
    (ki04 : PySem.W.kitOne K (.ref x0) (.ref x4) = some false)
    (ki05 : PySem.W.kitOne K (.ref x0) (.ref x5) = some false)
    (ki10 : PySem.W.kitOne K (.ref x1) (.ref x0) = some false)
    (ki11 : PySem.W.kitOne K (.ref x1) (.ref x1) = some true)
    (ki12 : PySem.W.kitOne K (.ref x1) (.ref x2) = some false)
    (ki13 : PySem.W.kitOne K (.ref x1) (.ref x3) = some false)
    (ki14 : PySem.W.kitOne K (.ref x1) (.ref x4) = some false)
    (ki15 : PySem.W.kitOne K (.ref x1) (.ref x5) = some false)
    (ki20 : PySem.W.kitOne K (.ref x2) (.ref x0) = some false)
    (ki21 : PySem.W.kitOne K (.ref x2) (.ref x1) = some false)
    (ki22 : PySem.W.kitOne K (.ref x2) (.ref x2) = some true)
    (ki23 : PySem.W.kitOne K (.ref x2) (.ref x3) = some false)
    (ki24 : PySem.W.kitOne K (.ref x2) (.ref x4) = some false)
    (ki25 : PySem.W.kitOne K (.ref x2) (.ref x5) = some false)
    (ki30 : PySem.W.kitOne K (.ref x3) (.ref x0) = some false)
    (ki31 : PySem.W.kitOne K (.ref x3) (.ref x1) = some false)
    (ki32 : PySem.W.kitOne K (.ref x3) (.ref x2) = some false)
    (ki33 : PySem.W.kitOne K (.ref x3) (.ref x3) = some true)
    (ki34 : PySem.W.kitOne K (.ref x3) (.ref x4) = some false)
    (ki35 : PySem.W.kitOne K (.ref x3) (.ref x5) = some false)
    (ki40 : PySem.W.kitOne K (.ref x4) (.ref x0) = some false)
    (ki41 : PySem.W.kitOne K (.ref x4) (.ref x1) = some false)
    (ki42 : PySem.W.kitOne K (.ref x4) (.ref x2) = some false)
    (ki43 : PySem.W.kitOne K (.ref x4) (.ref x3) = some false)
    (ki44 : PySem.W.kitOne K (.ref x4) (.ref x4) = some true)
    (ki45 : PySem.W.kitOne K (.ref x4) (.ref x5) = some false)
    (ki50 : PySem.W.kitOne K (.ref x5) (.ref x0) = some false)
    (ki51 : PySem.W.kitOne K (.ref x5) (.ref x1) = some false)
    (ki52 : PySem.W.kitOne K (.ref x5) (.ref x2) = some false)
    (ki53 : PySem.W.kitOne K (.ref x5) (.ref x3) = some false)
    (ki54 : PySem.W.kitOne K (.ref x5) (.ref x4) = some false)
    (ki55 : PySem.W.kitOne K (.ref x5) (.ref x5) = some true)
    (d_check_wires : DefIn K "check_wires" s_check_wires) (d_is_gate : DefIn K "is_gate" s_is_gate) (d_is_turn : DefIn K "is_turn" s_is_turn) (d_is_swap : DefIn K "is_swap" s_is_swap) (d_is_wire : DefIn K "is_wire" s_is_wire) (d_is_rising : DefIn K "is_rising" s_is_rising) (d_read : DefIn K "read" s_read) (d_read_gate : DefIn K "read_gate" s_read_gate) (d_gate_or_none : DefIn K "gate_or_none" s_gate_or_none) (d__law_cell_at : DefIn K "_law_cell_at" s__law_cell_at) (d__law_draw : DefIn K "_law_draw" s__law_draw) (d__law_word_of : DefIn K "_law_word_of" s__law_word_of) (d__law_gate : DefIn K "_law_gate" s__law_gate) (d__law_read : DefIn K "_law_read" s__law_read) (d__law_word_by : DefIn K "_law_word_by" s__law_word_by) (d__law_told : DefIn K "_law_told" s__law_told) (d_law : DefIn K "law" s_law)
    (z_len : PySem.W.nsIn K mainGlobals "len" = some none) (z_all : PySem.W.nsIn K mainGlobals "all" = some none) (z_any : PySem.W.nsIn K mainGlobals "any" = some none) (z_range : PySem.W.nsIn K mainGlobals "range" = some none) (z_zip : PySem.W.nsIn K mainGlobals "zip" = some none) (z_sum : PySem.W.nsIn K mainGlobals "sum" = some none) (z_min : PySem.W.nsIn K mainGlobals "min" = some none) (z_max : PySem.W.nsIn K mainGlobals "max" = some none) (z_list : PySem.W.nsIn K mainGlobals "list" = some none) (z_tuple : PySem.W.nsIn K mainGlobals "tuple" = some none) (z_reversed : PySem.W.nsIn K mainGlobals "reversed" = some none) (z_sorted : PySem.W.nsIn K mainGlobals "sorted" = some none) (z_isinstance : PySem.W.nsIn K mainGlobals "isinstance" = some none) (z_int : PySem.W.nsIn K mainGlobals "int" = some none) (z_bool : PySem.W.nsIn K mainGlobals "bool" = some none) (z_str : PySem.W.nsIn K mainGlobals "str" = some none) (z_enumerate : PySem.W.nsIn K mainGlobals "enumerate" = some none) (z_abs : PySem.W.nsIn K mainGlobals "abs" = some none) (z_dict : PySem.W.nsIn K mainGlobals "dict" = some none) (z_set : PySem.W.nsIn K mainGlobals "set" = some none) (z_divmod : PySem.W.nsIn K mainGlobals "divmod" = some none) (z_ord : PySem.W.nsIn K mainGlobals "ord" = some none) :
    ∃ fd : FuncData, (∀ (s : Shared) (v : Value), BindsTo s fd ⟨[v], []⟩ [("script", v)]) ∧ ∀ base : Heap, K.In base → base.Ns mainGlobals mg → FnOk l.prog w K mg base CX0 7 fa fd ["script"] (spLaw K) := by
  have T : TxtW mg := ⟨⟨PySem.W.mg_none_of X G z_len, PySem.W.mg_none_of X G z_all, PySem.W.mg_none_of X G z_any, PySem.W.mg_none_of X G z_range, PySem.W.mg_none_of X G z_zip, PySem.W.mg_none_of X G z_sum, PySem.W.mg_none_of X G z_min, PySem.W.mg_none_of X G z_max, PySem.W.mg_none_of X G z_list, PySem.W.mg_none_of X G z_tuple, PySem.W.mg_none_of X G z_reversed, PySem.W.mg_none_of X G z_sorted, PySem.W.mg_none_of X G z_isinstance, PySem.W.mg_none_of X G z_int, PySem.W.mg_none_of X G z_bool, PySem.W.mg_none_of X G z_str, PySem.W.mg_none_of X G z_enumerate, PySem.W.mg_none_of X G z_abs, PySem.W.mg_none_of X G z_dict, PySem.W.mg_none_of X G z_set, PySem.W.mg_none_of X G z_divmod, PySem.W.mg_none_of X G z_ord⟩, ⟨_, PySem.W.mg_of X G mw⟩⟩
  have D_check_wires : DefT K mg "check_wires" s_check_wires ["wires"] := d_check_wires.t X G fun _ _ _ _ _ _ us hl => match us, hl with | [_], _ => rfl
  have D_is_gate : DefT K mg "is_gate" s_is_gate ["wires", "gate"] := d_is_gate.t X G fun _ _ _ _ _ _ us hl => match us, hl with | [_, _], _ => rfl
  have D_is_turn : DefT K mg "is_turn" s_is_turn ["wires", "wire", "watched"] := d_is_turn.t X G fun _ _ _ _ _ _ us hl => match us, hl with | [_, _, _], _ => rfl
  have D_is_swap : DefT K mg "is_swap" s_is_swap ["wires", "one", "other"] := d_is_swap.t X G fun _ _ _ _ _ _ us hl => match us, hl with | [_, _, _], _ => rfl
  have D_is_wire : DefT K mg "is_wire" s_is_wire ["wires", "number"] := d_is_wire.t X G fun _ _ _ _ _ _ us hl => match us, hl with | [_, _], _ => rfl
  have D_is_rising : DefT K mg "is_rising" s_is_rising ["numbers"] := d_is_rising.t X G fun _ _ _ _ _ _ us hl => match us, hl with | [_], _ => rfl
  have D_read : DefT K mg "read" s_read ["wires", "text"] := d_read.t X G fun _ _ _ _ _ _ us hl => match us, hl with | [_, _], _ => rfl
  have D_read_gate : DefT K mg "read_gate" s_read_gate ["wires", "word"] := d_read_gate.t X G fun _ _ _ _ _ _ us hl => match us, hl with | [_, _], _ => rfl
  have D_gate_or_none : DefT K mg "gate_or_none" s_gate_or_none ["word"] := d_gate_or_none.t X G fun _ _ _ _ _ _ us hl => match us, hl with | [_], _ => rfl
  have D__law_cell_at : DefT K mg "_law_cell_at" s__law_cell_at ["script", "k"] := d__law_cell_at.t X G fun _ _ _ _ _ _ us hl => match us, hl with | [_, _], _ => rfl
  have D__law_draw : DefT K mg "_law_draw" s__law_draw ["cell", "k", "bound"] := d__law_draw.t X G fun _ _ _ _ _ _ us hl => match us, hl with | [_, _, _], _ => rfl
  have D__law_word_of : DefT K mg "_law_word_of" s__law_word_of ["e"] := d__law_word_of.t X G fun _ _ _ _ _ _ us hl => match us, hl with | [_], _ => rfl
  have D__law_gate : DefT K mg "_law_gate" s__law_gate ["wires", "word"] := d__law_gate.t X G fun _ _ _ _ _ _ us hl => match us, hl with | [_, _], _ => rfl
  have D__law_read : DefT K mg "_law_read" s__law_read ["wires", "text"] := d__law_read.t X G fun _ _ _ _ _ _ us hl => match us, hl with | [_, _], _ => rfl
  have D__law_word_by : DefT K mg "_law_word_by" s__law_word_by ["script", "k", "wires"] := d__law_word_by.t X G fun _ _ _ _ _ _ us hl => match us, hl with | [_, _, _], _ => rfl
  have D__law_told : DefT K mg "_law_told" s__law_told ["wires", "text"] := d__law_told.t X G fun _ _ _ _ _ _ us hl => match us, hl with | [_, _], _ => rfl
  obtain ⟨f, oc, od, kV, dc, pm, an, cd, ct, sl, a, l4, c4, k4⟩ := d_law
  have e := hfa.symm.trans (PySem.W.mg_of X G a)
  cases e
  refine ⟨PySem.W.fnOf "law" "law" (defArgs s_law) (defBody s_law) (defScope s_law) .none kV dc pm an cd ct, fun s v => .of_eq rfl, fun base _ _ => ?_⟩
  have F := fun_mk (st := s_law) l4 c4 k4
  have TW := T
  have TB := T.toTxtB
  have MT : ∃ t, mg "MOST_GATES" = some (.int 1000 t) := ⟨_, PySem.W.mg_of X G mt⟩
  have G_wire := ok_is_wire (P := l.prog) (w := w) (base := base) D_is_wire
  have G_wires := ok_check_wires (P := l.prog) (w := w) (base := base) TW D_check_wires
  have G_swap := ok_is_swap G_wire D_is_swap
  have G_rising := ok_is_rising (P := l.prog) (w := w) (base := base) TB D_is_rising
  have G_turn := ok_is_turn TB G_wire G_rising D_is_turn
  have G_gate := ok_is_gate G_turn G_swap D_is_gate
  have G_gor := ok_gate_or_none (P := l.prog) (w := w) (base := base) TB (PySem.W.mg_of X G fg) fl D_gate_or_none
  have Z : ErrK K mg xw (cAt x0 x1 x2 x3 x4 x5) := ⟨PySem.W.mg_of X G n_xw, PySem.W.mg_of X G n_x0, PySem.W.mg_of X G n_x1, PySem.W.mg_of X G n_x2, PySem.W.mg_of X G n_x3, PySem.W.mg_of X G n_x4, PySem.W.mg_of X G n_x5, PySem.W.mg_none_of X G ve, row6 (errOne_mk e_gs e_tk e_sw ex0 kv0 kw0 ne0 cl0 ga0 gt0 ca0 mo0 mb0) (errOne_mk e_gs e_tk e_sw ex1 kv1 kw1 ne1 cl1 ga1 gt1 ca1 mo1 mb1) (errOne_mk e_gs e_tk e_sw ex2 kv2 kw2 ne2 cl2 ga2 gt2 ca2 mo2 mb2) (errOne_mk e_gs e_tk e_sw ex3 kv3 kw3 ne3 cl3 ga3 gt3 ca3 mo3 mb3) (errOne_mk e_gs e_tk e_sw ex4 kv4 kw4 ne4 cl4 ga4 gt4 ca4 mo4 mb4) (errOne_mk e_gs e_tk e_sw ex5 kv5 kw5 ne5 cl5 ga5 gt5 ca5 mo5 mb5), row6 (row6 ki00 ki01 ki02 ki03 ki04 ki05) (row6 ki10 ki11 ki12 ki13 ki14 ki15) (row6 ki20 ki21 ki22 ki23 ki24 ki25) (row6 ki30 ki31 ki32 ki33 ki34 ki35) (row6 ki40 ki41 ki42 ki43 ki44 ki45) (row6 ki50 ki51 ki52 ki53 ki54 ki55)⟩
  have G_word := ok_word_of (P := l.prog) (w := w) (base := base) TB Z D__law_word_of
  have B_wires := bad_check_wires12 (P := l.prog) (w := w) (base := base) TW Z D_check_wires
  have G_wb := G_wires.toX.or B_wires
  have G_rgx := ok_read_gateX Z G_gor G_gate D_read_gate
  have G_readx := ok_readX TB MT Z G_wb G_rgx D_read
  have G_cell := ok_cell (P := l.prog) (w := w) (base := base) TB D__law_cell_at
  have G_draw := ok_draw (P := l.prog) (w := w) (base := base) D__law_draw
  have G_lgate := ok_lgate (P := l.prog) (w := w) (base := base) TB D__law_gate
  have G_lread := ok_lread TB G_lgate D__law_read
  have G_wby := ok_word_by TB G_cell G_draw D__law_word_by
  have G_told := ok_told12 Z G_readx G_word D__law_told
  exact ok_law F TB G_cell G_wby G_lread G_told
theorem walk {l : PySem.W.OpenLaw} {q : Program} {loose : List Str} {XP : (Str → Option Value) → Heap → Prop} {YP : World → Heap → Prop} {d : DefRec} {K : Params → PySem.W.Frag} (hn : l.most = some 63) (hdf : d.params.defaults = [])
    (hY : ∀ (w : World) (h : Heap), YP w h → (K w.params).In h)
    (F : ∀ (w : World) (mg : Str → Option Value) (fa : Addr) (h : Heap), (K w.params).In h → h.Ns mainGlobals mg → mg d.name = some (.ref fa) →
      ∃ fd : FuncData, (∀ (s : Shared) (u : Value), BindsTo s fd ⟨[u], []⟩ [("script", u)]) ∧ ∀ base : Heap, (K w.params).In base → base.Ns mainGlobals mg → FnOk l.prog w (K w.params) mg base CX0 7 fa fd ["script"] (spLaw (K w.params))) :
    PySem.W.WalkO q loose XP YP l.row.toRowW d [] (fun f vs => PySem.call f vs) :=
  L2.walk_of (n := 63) (k := 7) (x := "script") (CX := fun _ => CX0) (sp := fun w => spLaw (K w.params)) hn (by decide) hdf ⟨rfl, by decide, by decide⟩ hY F (fun _ _ a ns hl _ hS => ⟨a, ns, rfl, hS, hl, fun _ => rfl⟩) fun _ _ _ _ _ z => z
end UG
open PySem PySem.W PyProof.Rows
set_option maxRecDepth 100000 in
set_option maxHeartbeats 0 in
theorem PySem.Challenge.cw_undogates_k12_read_or_refused_holds : PySem.Challenge.rw_undogates_k12_read_or_refused.Holds := by
  w_on; o_law; k_head; (case hw => w_witness2)
  k_fill
  refine UG.walk (l := PySem.Challenge.rw_undogates_k12_read_or_refused) rfl rfl (fun w h Y => PySem.W.kIn_of Y) ?F
  case F =>
    intro w mg fa h KX G hmg
    refine' UG.all_mk KX G hmg ?mw ?mt ?fg ?fl ?n_xw ?n_x0 ?n_x1 ?n_x2 ?n_x3 ?n_x4 ?n_x5 ?ve ?e_gs ?e_tk ?e_sw ?ex0 ?kv0 ?kw0 ?ne0 ?cl0 ?ga0 ?gt0 ?ca0 ?mo0 ?mb0 ?ex1 ?kv1 ?kw1 ?ne1 ?cl1 ?ga1 ?gt1 ?ca1 ?mo1 ?mb1 ?ex2 ?kv2 ?kw2 ?ne2 ?cl2 ?ga2 ?gt2 ?ca2 ?mo2 ?mb2 ?ex3 ?kv3 ?kw3 ?ne3 ?cl3 ?ga3 ?gt3 ?ca3 ?mo3 ?mb3 ?ex4 ?kv4 ?kw4 ?ne4 ?cl4 ?ga4 ?gt4 ?ca4 ?mo4 ?mb4 ?ex5 ?kv5 ?kw5 ?ne5 ?cl5 ?ga5 ?gt5 ?ca5 ?mo5 ?mb5 ?ki00 ?ki01 ?ki02 ?ki03 ?ki04 ?ki05 ?ki10 ?ki11 ?ki12 ?ki13 ?ki14 ?ki15 ?ki20 ?ki21 ?ki22 ?ki23 ?ki24 ?ki25 ?ki30 ?ki31 ?ki32 ?ki33 ?ki34 ?ki35 ?ki40 ?ki41 ?ki42 ?ki43 ?ki44 ?ki45 ?ki50 ?ki51 ?ki52 ?ki53 ?ki54 ?ki55 ?d_check_wires ?d_is_gate ?d_is_turn ?d_is_swap ?d_is_wire ?d_is_rising ?d_read ?d_read_gate ?d_gate_or_none ?d__law_cell_at ?d__law_draw ?d__law_word_of ?d__law_gate ?d__law_read ?d__law_word_by ?d__law_told ?d_law ?z_len ?z_all ?z_any ?z_range ?z_zip ?z_sum ?z_min ?z_max ?z_list ?z_tuple ?z_reversed ?z_sorted ?z_isinstance ?z_int ?z_bool ?z_str ?z_enumerate ?z_abs ?z_dict ?z_set ?z_divmod ?z_ord
    (case mw => k_is)
    (case mt => k_is)
    (case fg => k_is)
    (case fl => rfl)
    (case n_xw => k_is)
    (case n_x0 => k_is)
    (case n_x1 => k_is)
    (case n_x2 => k_is)
    (case n_x3 => k_is)
    (case n_x4 => k_is)
    (case n_x5 => k_is)
    (case ve => k_is)
    (case e_gs => k_is)
    (case e_tk => k_is)
    (case e_sw => k_is)
    (case ex0 => k_exc)
    (case kv0 => kit_is)
    (case kw0 => kit_is)
    (case ne0 => decide)
    (case cl0 => k_is)
    (case ga0 => k_is)
    (case gt0 => k_is)
    (case ca0 => k_is)
    (case mo0 => k_is)
    (case mb0 => k_is)
    (case ex1 => k_exc)
    (case kv1 => kit_is)
    (case kw1 => kit_is)
    (case ne1 => decide)
    (case cl1 => k_is)
    (case ga1 => k_is)
    (case gt1 => k_is)
    (case ca1 => k_is)
    (case mo1 => k_is)
    (case mb1 => k_is)
    (case ex2 => k_exc)
    (case kv2 => kit_is)
    (case kw2 => kit_is)
    (case ne2 => decide)
    (case cl2 => k_is)
    (case ga2 => k_is)
    (case gt2 => k_is)
    (case ca2 => k_is)
    (case mo2 => k_is)
    (case mb2 => k_is)
    (case ex3 => k_exc)
    (case kv3 => kit_is)
    (case kw3 => kit_is)
    (case ne3 => decide)
    (case cl3 => k_is)
    (case ga3 => k_is)
    (case gt3 => k_is)
    (case ca3 => k_is)
    (case mo3 => k_is)
    (case mb3 => k_is)
    (case ex4 => k_exc)
    (case kv4 => kit_is)
    (case kw4 => kit_is)
    (case ne4 => decide)
    (case cl4 => k_is)
    (case ga4 => k_is)
    (case gt4 => k_is)
    (case ca4 => k_is)
    (case mo4 => k_is)
    (case mb4 => k_is)
    (case ex5 => k_exc)
    (case kv5 => kit_is)
    (case kw5 => kit_is)
    (case ne5 => decide)
    (case cl5 => k_is)
    (case ga5 => k_is)
    (case gt5 => k_is)
    (case ca5 => k_is)
    (case mo5 => k_is)
    (case mb5 => k_is)
    (case ki00 => kit_is)
    (case ki01 => kit_is)
    (case ki02 => kit_is)
    (case ki03 => kit_is)
    (case ki04 => kit_is)
    (case ki05 => kit_is)
    (case ki10 => kit_is)
    (case ki11 => kit_is)
    (case ki12 => kit_is)
    (case ki13 => kit_is)
    (case ki14 => kit_is)
    (case ki15 => kit_is)
    (case ki20 => kit_is)
    (case ki21 => kit_is)
    (case ki22 => kit_is)
    (case ki23 => kit_is)
    (case ki24 => kit_is)
    (case ki25 => kit_is)
    (case ki30 => kit_is)
    (case ki31 => kit_is)
    (case ki32 => kit_is)
    (case ki33 => kit_is)
    (case ki34 => kit_is)
    (case ki35 => kit_is)
    (case ki40 => kit_is)
    (case ki41 => kit_is)
    (case ki42 => kit_is)
    (case ki43 => kit_is)
    (case ki44 => kit_is)
    (case ki45 => kit_is)
    (case ki50 => kit_is)
    (case ki51 => kit_is)
    (case ki52 => kit_is)
    (case ki53 => kit_is)
    (case ki54 => kit_is)
    (case ki55 => kit_is)
    (case d_check_wires => refine' UG.DefIn.of ?a ?l ?c ?k; (case a => k_is); (case l => k_is); (case c => k_is); (case k => k_is))
    (case d_is_gate => refine' UG.DefIn.of ?a ?l ?c ?k; (case a => k_is); (case l => k_is); (case c => k_is); (case k => k_is))
    (case d_is_turn => refine' UG.DefIn.of ?a ?l ?c ?k; (case a => k_is); (case l => k_is); (case c => k_is); (case k => k_is))
    (case d_is_swap => refine' UG.DefIn.of ?a ?l ?c ?k; (case a => k_is); (case l => k_is); (case c => k_is); (case k => k_is))
    (case d_is_wire => refine' UG.DefIn.of ?a ?l ?c ?k; (case a => k_is); (case l => k_is); (case c => k_is); (case k => k_is))
    (case d_is_rising => refine' UG.DefIn.of ?a ?l ?c ?k; (case a => k_is); (case l => k_is); (case c => k_is); (case k => k_is))
    (case d_read => refine' UG.DefIn.of ?a ?l ?c ?k; (case a => k_is); (case l => k_is); (case c => k_is); (case k => k_is))
    (case d_read_gate => refine' UG.DefIn.of ?a ?l ?c ?k; (case a => k_is); (case l => k_is); (case c => k_is); (case k => k_is))
    (case d_gate_or_none => refine' UG.DefIn.of ?a ?l ?c ?k; (case a => k_is); (case l => k_is); (case c => k_is); (case k => k_is))
    (case d__law_cell_at => refine' UG.DefIn.of ?a ?l ?c ?k; (case a => k_is); (case l => k_is); (case c => k_is); (case k => k_is))
    (case d__law_draw => refine' UG.DefIn.of ?a ?l ?c ?k; (case a => k_is); (case l => k_is); (case c => k_is); (case k => k_is))
    (case d__law_word_of => refine' UG.DefIn.of ?a ?l ?c ?k; (case a => k_is); (case l => k_is); (case c => k_is); (case k => k_is))
    (case d__law_gate => refine' UG.DefIn.of ?a ?l ?c ?k; (case a => k_is); (case l => k_is); (case c => k_is); (case k => k_is))
    (case d__law_read => refine' UG.DefIn.of ?a ?l ?c ?k; (case a => k_is); (case l => k_is); (case c => k_is); (case k => k_is))
    (case d__law_word_by => refine' UG.DefIn.of ?a ?l ?c ?k; (case a => k_is); (case l => k_is); (case c => k_is); (case k => k_is))
    (case d__law_told => refine' UG.DefIn.of ?a ?l ?c ?k; (case a => k_is); (case l => k_is); (case c => k_is); (case k => k_is))
    (case d_law => refine' UG.DefIn.of ?a ?l ?c ?k; (case a => k_is); (case l => k_is); (case c => k_is); (case k => k_is))
    (case z_len => k_is)
    (case z_all => k_is)
    (case z_any => k_is)
    (case z_range => k_is)
    (case z_zip => k_is)
    (case z_sum => k_is)
    (case z_min => k_is)
    (case z_max => k_is)
    (case z_list => k_is)
    (case z_tuple => k_is)
    (case z_reversed => k_is)
    (case z_sorted => k_is)
    (case z_isinstance => k_is)
    (case z_int => k_is)
    (case z_bool => k_is)
    (case z_str => k_is)
    (case z_enumerate => k_is)
    (case z_abs => k_is)
    (case z_dict => k_is)
    (case z_set => k_is)
    (case z_divmod => k_is)
    (case z_ord => k_is)
